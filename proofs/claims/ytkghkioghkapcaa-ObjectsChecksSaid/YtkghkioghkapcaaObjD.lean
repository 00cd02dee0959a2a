/-
  The document's answer for layer 7, by contract: Fits.
-/
import Derived.Test.YtkghkioghkapcaaObjC
import Derived.Deep.RegionWith
namespace Go.Proofs.Ytkghkioghkapcaa
open Go.RowKit Go.Sort

theorem eqT_empty (s : ByteArray) : eqT s ⟨#[]⟩ = decide (s.toList = []) := by
  unfold eqT
  rw [show (ByteArray.mk #[]).toList = [] from ByteArray.toList_mk []]
  by_cases h : s.toList = []
  · rw [h]; rfl
  · rw [decide_eq_false h, ← Bool.not_eq_true, beq_iff_eq]; exact h
theorem bareB_is (r : Rul) : bareB r = (decide (r.schema.toList = []) && (decide (r.table.toList = []) && decide (r.key.toList = []))) := by unfold bareB; rw [eqT_empty, eqT_empty, eqT_empty]
theorem fitAt_get {l : List Col} {n : List ByteArray} {k : Nat} (h : k < n.length) : fitAt l n k = (decide (0 ≤ colI l n[k]) && !inB (n.take k) n[k]) := by unfold fitAt; rw [List.getElem?_eq_getElem h]
theorem kindAt_get {l : List Col} {q : Int} (_ : 0 ≤ q) (h1 : q.toNat < l.length) : kindAt l q = l[q.toNat].kind := by unfold kindAt; rw [List.getElem?_eq_getElem h1]
theorem fitsB_key {l : List Col} {r : Rul} (hf : (List.range r.cols.length).all (fitAt l r.cols) = true) (hn : nameB r.name = true) (h0 : 0 < r.cols.length) (hk : r.kind = 1 ∨ r.kind = 2) :
    fitsB l r = (decide (r.schema.toList = []) && (decide (r.table.toList = []) && decide (r.key.toList = [])) && (decide (r.low = 0) && decide (r.high = 0))) := by
  unfold fitsB
  rw [hf, hn, decide_eq_true h0, if_pos hk, bareB_is]; rfl
theorem fitsB_check {l : List Col} {r : Rul} (hf : (List.range r.cols.length).all (fitAt l r.cols) = true) (hn : nameB r.name = true) (h0 : 0 < r.cols.length) (hk : r.kind = 3) :
    fitsB l r = (decide (r.schema.toList = []) && (decide (r.table.toList = []) && decide (r.key.toList = [])) && (decide (r.cols.length = 1) && (decide (kindAt l (colI l (r.cols.headD ⟨#[]⟩)) = 2) && decide (r.low ≤ r.high)))) := by
  unfold fitsB
  rw [hf, hn, decide_eq_true h0, if_neg (by omega), if_pos hk, bareB_is]; rfl
theorem fitsB_foreign {l : List Col} {r : Rul} (hf : (List.range r.cols.length).all (fitAt l r.cols) = true) (hn : nameB r.name = true) (h0 : 0 < r.cols.length) (hk : r.kind = 4) :
    fitsB l r = (nameB r.schema && (nameB r.table && (nameB r.key && (decide (r.low = 0) && decide (r.high = 0))))) := by
  unfold fitsB
  rw [hf, hn, decide_eq_true h0, if_neg (by omega), if_neg (by omega), if_pos hk]; rfl
theorem fitsB_other {l : List Col} {r : Rul} (h1 : ¬ r.kind = 1) (h2 : ¬ r.kind = 2) (h3 : ¬ r.kind = 3) (h4 : ¬ r.kind = 4) : fitsB l r = false := by
  unfold fitsB
  rw [if_neg (by omega), if_neg h3, if_neg h4, Bool.and_false]
theorem fitsB_at {l : List Col} {r : Rul} {k : Nat} (h : k < r.cols.length) (hp : fitAt l r.cols k = false) : fitsB l r = false := by
  unfold fitsB
  rw [all_range_no h hp]; rfl
theorem fitsB_name {l : List Col} {r : Rul} (h : nameB r.name = false) : fitsB l r = false := by
  unfold fitsB
  rw [h]; simp
theorem fitsB_none {l : List Col} {r : Rul} (h : r.cols.length = 0) : fitsB l r = false := by
  unfold fitsB
  rw [h]; simp
theorem box_rule (w : World) (x0 x1 x2 x3 x4 x5 x6 x7 : Value) (t : TypeId) : ∀ (j : Nat) v, [x0, x1, x2, x3, x4, x5, x6, x7][j]? = some v → (w.alloc (.cells #[x0, x1, x2, x3, x4, x5, x6, x7] t)).cell? ⟨w.heap.size, j, none⟩ = some v := by
  intro j v hj
  rw [cell_of_row _ _ _ _ _ _ (heap_alloc_new w _)]
  simpa using hj

set_option maxRecDepth 100000 in
set_option maxHeartbeats 16000000 in
theorem ref_fits_any (a : Option Addr) (n c B : Nat) (l : List Col) (r : Rul) (v : Value) (w : World) (h : Lst w (· < B) colP 3 (.slice a n c) l) (hr : Lst w (· < B) strP 1 v r.cols) (hB : B ≤ w.heap.size) :
    Calls Try.prog 102 #[.slice a n c, .agg #[.string r.name, .int .i64 r.kind, v, .int .i64 r.low, .int .i64 r.high, .string r.schema, .string r.table, .string r.key]] w fun e w' => e = .returned (.bool (fitsB l r)) ∧ Gr w w' := by
  have mixed := mixed_ok
  obtain ⟨hl, hc, hm⟩ := h.len
  obtain ⟨ra, rc, rfl, hrc, hrm⟩ := hr.form
  obtain ⟨m, hml⟩ : ∃ m, r.cols.length = m := ⟨_, rfl⟩
  rw [hml] at hr hrc
  unfold maxLen at hm hrm
  have HL := Lib.hid hl; have HML := Lib.hid hml
  have hat := fun k => fitsB_at (l := l) (r := r) (k := k)
  have hnm := fitsB_name (l := l) (r := r)
  have hno := fitsB_none (l := l) (r := r)
  have hky := fitsB_key (l := l) (r := r)
  have hch := fitsB_check (l := l) (r := r)
  have hfo := fitsB_foreign (l := l) (r := r)
  have hot := fitsB_other (l := l) (r := r)
  rw [hml] at hat hno hky hch hfo
  have HAT := Lib.hid hat; have HNM := Lib.hid hnm; have HNO := Lib.hid hno; have HKY := Lib.hid hky; have HCH := Lib.hid hch; have HFO := Lib.hid hfo; have HOT := Lib.hid hot
  rw [hml]
  have hbox := box_rule w (.string r.name) (.int .i64 r.kind) (.slice ra m rc) (.int .i64 r.low) (.int .i64 r.high) (.string r.schema) (.string r.table) (.string r.key) 56
  have hg := Gr.alloc w (.cells #[.string r.name, .int .i64 r.kind, .slice ra m rc, .int .i64 r.low, .int .i64 r.high, .string r.schema, .string r.table, .string r.key] 56)
  have HH := Lib.hid h; have HR := Lib.hid hr
  have hsz : w.heap.size < (w.alloc (.cells #[.string r.name, .int .i64 r.kind, .slice ra m rc, .int .i64 r.low, .int .i64 r.high, .string r.schema, .string r.table, .string r.key] 56)).heap.size := by simp
  clear h hr hat hnm hno hky hch hfo hot hml hl
  go_enter Try.func102, Try.ntmps102
  go_wp2_with fail
  have HBX := Lib.hid hbox
  have HG := Lib.hid hg
  clear hbox hg
  generalize hw1 : World.alloc w _ = w1 at *
  clear hw1
  go_loopw [5] (fun i wr => ∃ k : Nat, k ≤ m ∧ i = .int .i64 k ∧ Hid (∀ j, j < k → fitAt l r.cols j = true) ∧ Gr w1 wr) (fun i _ => m - (intOf i).toNat)
  case atStart => exact ⟨0, Nat.zero_le _, rfl, Lib.hid (fun _ h => by omega), Gr.refl _⟩
  case round =>
    obtain ⟨k, hk, rfl, hn, hbw⟩ := hrel
    have hbox := fun j v hj => (hbw.below.cell (p := ⟨w.heap.size, j, none⟩) hsz).trans (HBX.out j v hj)
    have hwr : w.heap.size < wr.heap.size := Nat.lt_of_lt_of_le hsz hbw.below.size
    have hww := HG.out.trans hbw
    have b2 := hbox 2 _ rfl
    by_cases hlt : k < m
    · have lk : k < r.cols.length := by rw [HML.out]; exact hlt
      obtain ⟨b, o, x, rfl, hbB, hx, hcl⟩ := HR.out.at lk
      have hbl : b < w.heap.size := Nat.lt_of_lt_of_le hbB hB
      have hbr : b < wr.heap.size := Nat.lt_of_lt_of_le hbl hww.below.size
      have x0 := hcl 0 (.string r.cols[k]) (by rw [hx]; rfl)
      have hft := fitAt_get (l := l) lk
      have hno := HAT.out k hlt
      have hst := fun h => upto_succ hn.out h
      have HC := Lib.hid (fun (W : World) (hW : Gr wr W) => (ref_column_any a n c B l r.cols[k] W (cols_keep HH.out (fun _ h => h) ((hww.trans hW).keeps fun j hj => Nat.lt_of_lt_of_le hj hB))).mono (R' := fun e w' => e = .returned (.int .i64 (colI l r.cols[k])) ∧ Gr W w') fun _ _ ⟨h1, h2⟩ => ⟨h1, by subst h2; exact Gr.refl _⟩)
      have HI := Lib.hid (fun (W : World) (hW : Gr wr W) => (ref_in_any (some ⟨b, o, none⟩) k rc B (r.cols.take k) r.cols[k] W (strs_keep (HR.out.take hk) (fun _ h => h) ((hww.trans hW).keeps fun j hj => Nat.lt_of_lt_of_le hj hB))).mono (R' := fun e w' => e = .returned (.bool (inB (r.cols.take k) r.cols[k])) ∧ Gr W w') fun _ _ ⟨h1, h2⟩ => ⟨h1, by subst h2; exact Gr.refl _⟩)
      have k0 : (0 : Int) ≤ (k : Int) := by omega
      have k1 : (k : Int) < (m : Int) := by omega
      have k2 : (k : Int) ≤ (rc : Int) := by omega
      rw [Nat.add_zero, Nat.mul_one] at x0
      clear hcl hx
      generalize r.cols[k] = s at *
      have hge : -1 ≤ colI l s := idxI_ge _ _
      have c0 := fun n' os => cell_grown (w := wr) (a := ⟨b, o + k, none⟩) hbr ((hww.below.cell (p := ⟨b, o + k, none⟩) hbl).trans x0) n' os
      have c2 := fun n' os => cell_grown (w := wr) (a := ⟨w.heap.size, 2, none⟩) hwr b2 n' os
      clear x0 hbox
      generalize colI l s = q at *
      by_cases hq : q < 0
      · have HF := Lib.hid (hno (by rw [hft, decide_eq_false (by omega)]; rfl))
        have hq0 : decide (q < 0) = true := decide_eq_true hq
        clear hno hst hft
        go_wp2_with fail
        refine Go.wp_region_quiet_grown mixed (by kernel_rfl) ?_
        repeat (go_big_quiet_step (first
          | (go_at_call 86; exact gr_from HC.out)
          | (go_at_call 93; exact gr_from HI.out)))
        refine Go.wpQuiet_nil ?_
        intro _ hw'
        obtain ⟨⟨nq, osq⟩, hw''⟩ := hw'
        subst hw''
        go_wp2_with fail
        go_ret
        exact ⟨by rw [HF.out]; rfl, hww.trans (Gr.grown _ _ _)⟩
      · have hq0 : decide (q < 0) = false := decide_eq_false hq
        cases hin : inB (r.cols.take k) s with
        | true =>
          rw [hin] at HI
          have HF := Lib.hid (hno (by rw [hft, hin]; simp))
          clear hno hst hft hin
          go_wp2_with fail
          refine Go.wp_region_quiet_grown mixed (by kernel_rfl) ?_
          repeat (go_big_quiet_step (first
            | (go_at_call 86; exact gr_from HC.out)
            | (go_at_call 93; exact gr_from HI.out)))
          refine Go.wpQuiet_nil ?_
          intro _ hw'
          obtain ⟨⟨nq, osq⟩, hw''⟩ := hw'
          subst hw''
          go_wp2_with fail
          go_ret
          exact ⟨by rw [HF.out]; rfl, hww.trans (Gr.grown _ _ _)⟩
        | false =>
          rw [hin] at HI
          have HS := Lib.hid (hst (by rw [hft, hin, decide_eq_true (by omega)]; rfl))
          clear hno hst hft hin
          go_wp2_with fail
          refine Go.wp_region_quiet_grown mixed (by kernel_rfl) ?_
          repeat (go_big_quiet_step (first
            | (go_at_call 86; exact gr_from HC.out)
            | (go_at_call 93; exact gr_from HI.out)))
          refine Go.wpQuiet_nil ?_
          intro _ hw'
          obtain ⟨⟨nq, osq⟩, hw''⟩ := hw'
          subst hw''
          go_wp2_with fail
          go_roundw
          case rel => exact ⟨k + 1, by omega, by go_num, HS, hbw.trans (Gr.grown _ _ _)⟩
          case measure => simp [intOf]; omega
    · have hall : (List.range m).all (fitAt l r.cols) = true := all_range_iff.2 fun j hj => hn.out j (by omega)
      have b0 := hbox 0 _ rfl
      have b1 := hbox 1 _ rfl
      have b3 := hbox 3 _ rfl
      have b4 := hbox 4 _ rfl
      have b5 := hbox 5 _ rfl
      have b6 := hbox 6 _ rfl
      have b7 := hbox 7 _ rfl
      have HN := Lib.hid ref_name_any
      clear hbox
      cases hnn : nameB r.name with
      | false =>
        have HN1 := Lib.hid (HN.out r.name)
        rw [hnn] at HN1
        have HF := Lib.hid (HNM.out hnn)
        clear hnn hall
        go_wp2_with (go_at_call 13; refine (HN1.out _).mono ?_; rintro e w' ⟨rfl, rfl⟩)
        go_ret
        exact ⟨by rw [HF.out]; rfl, hww⟩
      | true =>
        have HN1 := Lib.hid (HN.out r.name)
        rw [hnn] at HN1
        by_cases hm0 : m = 0
        · have HF := Lib.hid (HNO.out hm0)
          subst hm0
          clear hnn hall
          go_wp2_with (go_at_call 13; refine (HN1.out _).mono ?_; rintro e w' ⟨rfl, rfl⟩)
          go_ret
          exact ⟨by rw [HF.out]; rfl, hww⟩
        · have hm1 : ((m : Int) == 0) = false := by simp; omega
          have hky := HKY.out hall hnn (by omega)
          have hch := HCH.out hall hnn (by omega)
          have hfo := HFO.out hall hnn (by omega)
          by_cases h12 : r.kind = 1 ∨ r.kind = 2
          · have HF := Lib.hid (hky h12)
            clear hky hch hfo hnn hall
            generalize r.schema = rs at *
            generalize r.table = rt at *
            generalize r.key = ry at *
            generalize r.low = lo at *
            generalize r.high = hi at *
            generalize r.kind = rk at *
            rcases h12 with rfl | rfl
            all_goals
              go_wp2_with (go_at_call 13; refine (HN1.out _).mono ?_; rintro e w' ⟨rfl, rfl⟩)
              all_goals
                go_ret
                exact ⟨by rw [HF.out]; first | (simp [*]; done) | (simp [*]; rfl), hww⟩
          · by_cases h3 : r.kind = 3
            · have HF := Lib.hid (hch h3)
              have hf0 := hn.out 0 (by omega)
              clear hky hch hfo hnn
              by_cases hm2 : m = 1
              · subst hm2
                have l0 : 0 < r.cols.length := by rw [HML.out]; omega
                obtain ⟨b, o, x, rfl, hbB, hx, hcl⟩ := HR.out.at l0
                have hbl : b < w.heap.size := Nat.lt_of_lt_of_le hbB hB
                have x0 := hcl 0 (.string r.cols[0]) (by rw [hx]; rfl)
                have c0 := (hww.below.cell (p := ⟨b, o + 0 * 1 + 0, none⟩) hbl).trans x0
                have hhd : r.cols.headD ⟨#[]⟩ = r.cols[0] := by rw [List.headD_eq_head?_getD, List.head?_eq_getElem?, List.getElem?_eq_getElem l0]; rfl
                rw [fitAt_get l0] at hf0
                have hq : 0 ≤ colI l r.cols[0] := by
                  simp only [Bool.and_eq_true, decide_eq_true_eq] at hf0
                  exact hf0.1
                have hqn : colI l r.cols[0] < (l.length : Int) := idxI_lt _ _
                have HC := Lib.hid (ref_column_any a n c B l r.cols[0] wr (cols_keep HH.out (fun _ h => h) (hww.keeps fun j hj => Nat.lt_of_lt_of_le hj hB)))
                rw [hhd] at HF
                have hki := kindAt_get (l := l) (q := colI l r.cols[0]) hq (by omega)
                obtain ⟨lb, lo', y, rfl, hlB, hy, hyl⟩ := HH.out.at (k := (colI l r.cols[0]).toNat) (by omega)
                have hll : lb < w.heap.size := Nat.lt_of_lt_of_le hlB hB
                have y1 := hyl 1 (.int .i64 l[(colI l r.cols[0]).toNat].kind) (by rw [hy]; rfl)
                rw [← hki] at y1
                have d1 := (hww.below.cell (p := ⟨lb, lo' + (colI l r.cols[0]).toNat * 3 + 1, none⟩) hll).trans y1
                have hqn' : colI l r.cols[0] < (n : Int) := by rw [HL.out] at hqn; exact hqn
                simp only [Nat.zero_mul, Nat.add_zero] at c0
                clear hcl hx x0 hf0 hhd hqn hki y1 hyl hy hall
                generalize r.cols[0] = s at *
                generalize colI l s = q at *
                generalize kindAt l q = kq at *
                generalize r.schema = rs at *
                generalize r.table = rt at *
                generalize r.key = ry at *
                generalize r.low = lo at *
                generalize r.high = hi at *
                generalize r.kind = rk at *
                subst h3
                have hqt : q.toNat < n := by omega
                go_wp2_with (first
                  | (go_at_call 13; refine (HN1.out _).mono ?_; rintro e w' ⟨rfl, rfl⟩)
                  | (go_at_call 86; refine HC.out.mono ?_; rintro e w' ⟨rfl, rfl⟩))
                all_goals
                  go_ret
                  exact ⟨by rw [HF.out]; first | (simp [*]; done) | (simp [*]; rfl), hww⟩
              · have em : ((m : Int) == 1) = false := by simp; omega
                have hmd : decide (m = 1) = false := decide_eq_false hm2
                clear hall hf0
                rw [hmd] at HF
                generalize r.schema = rs at *
                generalize r.table = rt at *
                generalize r.key = ry at *
                generalize r.kind = rk at *
                subst h3
                go_wp2_with (go_at_call 13; refine (HN1.out _).mono ?_; rintro e w' ⟨rfl, rfl⟩)
                all_goals
                  go_ret
                  exact ⟨by rw [HF.out]; simp, hww⟩
            · by_cases h4 : r.kind = 4
              · have HF := Lib.hid (hfo h4)
                clear hky hch hfo hnn hall h12
                have HNa := Lib.hid (HN.out r.schema)
                have HNb := Lib.hid (HN.out r.table)
                have HNc := Lib.hid (HN.out r.key)
                clear HN
                generalize nameB r.schema = p1 at *
                generalize nameB r.table = p2 at *
                generalize nameB r.key = p3 at *
                generalize r.schema = rs at *
                generalize r.table = rt at *
                generalize r.key = ry at *
                generalize r.low = lo at *
                generalize r.high = hi at *
                generalize r.kind = rk at *
                subst h4
                cases p1 <;> cases p2 <;> cases p3
                all_goals
                  go_wp2_with fail
                  refine (HN1.out _).mono ?_
                  rintro e w' ⟨rfl, rfl⟩
                  go_wp2_with (first
                    | (go_at_call_of 13 (Value.string rs); refine (HNa.out _).mono ?_; rintro e w' ⟨rfl, rfl⟩)
                    | (go_at_call_of 13 (Value.string rt); refine (HNb.out _).mono ?_; rintro e w' ⟨rfl, rfl⟩)
                    | (go_at_call_of 13 (Value.string ry); refine (HNc.out _).mono ?_; rintro e w' ⟨rfl, rfl⟩))
                  all_goals
                    go_ret
                    exact ⟨by rw [HF.out]; first | (simp [*]; done) | (simp [*]; rfl), hww⟩
              · have HF := Lib.hid (HOT.out (fun e => h12 (.inl e)) (fun e => h12 (.inr e)) h3 h4)
                have e1 : (r.kind == 1) = false := by simpa using fun e => h12 (.inl e)
                have e2 : (r.kind == 2) = false := by simpa using fun e => h12 (.inr e)
                have e3 : (r.kind == 3) = false := by simpa using h3
                have e4 : (r.kind == 4) = false := by simpa using h4
                clear hky hch hfo hnn hall h12 h3 h4
                generalize r.kind = rk at *
                generalize r.schema = rs at *
                generalize r.table = rt at *
                generalize r.key = ry at *
                go_wp2_with (go_at_call 13; refine (HN1.out _).mono ?_; rintro e w' ⟨rfl, rfl⟩)
                all_goals
                  go_ret
                  exact ⟨by rw [HF.out]; rfl, hww⟩
end Go.Proofs.Ytkghkioghkapcaa
