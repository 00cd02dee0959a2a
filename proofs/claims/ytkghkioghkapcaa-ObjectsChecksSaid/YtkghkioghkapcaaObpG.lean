/-
  Layer 7, the program, by contract: fits.
-/
import Derived.Test.YtkghkioghkapcaaObpF
import Derived.Test.YtkghkioghkapcaaObjD
namespace Go.Proofs.Ytkghkioghkapcaa
open Go.RowKit Go.Sort Go.Shelf

theorem kindsL_nil {l : List Col} {r : Rul} (h : (kindsL l r.cols).length = 0) : fitsB l r = false := by
  unfold kindsL at h
  by_cases ha : (List.range r.cols.length).all (fitAt l r.cols) = true
  · rw [if_pos ha, List.length_map] at h
    exact fitsB_none h
  · unfold fitsB
    rw [show (List.range r.cols.length).all (fitAt l r.cols) = false by simpa using ha]
    rfl
theorem kindsL_pos {l : List Col} {ns : List ByteArray} (h : 0 < (kindsL l ns).length) : (List.range ns.length).all (fitAt l ns) = true ∧ kindsL l ns = ns.map fun s => kindAt l (colI l s) := by
  unfold kindsL at h ⊢
  by_cases ha : (List.range ns.length).all (fitAt l ns) = true
  · rw [if_pos ha]; exact ⟨ha, rfl⟩
  · rw [if_neg ha] at h; simp at h

theorem isEmpty_dec (s : List UInt8) : decide (s = []) = s.isEmpty := by cases s <;> rfl

set_option maxRecDepth 100000 in
set_option maxHeartbeats 16000000 in
theorem prog_fits_any (a : Option Addr) (n c B : Nat) (l : List Col) (r : Rul) (v : Value) (w : World) (h : Lst w (· < B) colP 3 (.slice a n c) l) (hr : Lst w (· < B) strP 1 v r.cols) (hB : B ≤ w.heap.size) (h30 : r.cols.length ≤ 3000) :
    Calls Try.prog 96 #[.agg #[.string r.name, .int .i64 r.kind, v, .int .i64 r.low, .int .i64 r.high, .string r.schema, .string r.table, .string r.key], .slice a n c] w fun e w' => e = .returned (.bool (fitsB l r)) ∧ Below w.heap.size w w' := by
  obtain ⟨ra, rc, rfl, hrc, hrm⟩ := hr.form
  obtain ⟨m, hml⟩ : ∃ m, r.cols.length = m := ⟨_, rfl⟩
  rw [hml] at hr hrc h30
  have hnm := fitsB_name (l := l) (r := r)
  have hky := fitsB_key (l := l) (r := r)
  have hch := fitsB_check (l := l) (r := r)
  have hfo := fitsB_foreign (l := l) (r := r)
  have hot := fitsB_other (l := l) (r := r)
  have hni := kindsL_nil (l := l) (r := r)
  have hpo := kindsL_pos (l := l) (ns := r.cols)
  have HML := Lib.hid hml
  have HNM := Lib.hid hnm; have HKY := Lib.hid hky; have HCH := Lib.hid hch; have HFO := Lib.hid hfo; have HOT := Lib.hid hot; have HNI := Lib.hid hni; have HPO := Lib.hid hpo
  rw [hml]
  have hbox := box_rule w (.string r.name) (.int .i64 r.kind) (.slice ra m rc) (.int .i64 r.low) (.int .i64 r.high) (.string r.schema) (.string r.table) (.string r.key) 56
  have hg := (Gr.alloc w (.cells #[.string r.name, .int .i64 r.kind, .slice ra m rc, .int .i64 r.low, .int .i64 r.high, .string r.schema, .string r.table, .string r.key] 56)).below
  have hfr : ∀ j, (w.alloc (.cells #[.string r.name, .int .i64 r.kind, .slice ra m rc, .int .i64 r.low, .int .i64 r.high, .string r.schema, .string r.table, .string r.key] 56)).frozen? ⟨w.heap.size, j, none⟩ = false := fun j => frozen_of_row _ _ j _ _ (heap_alloc_new w _)
  have hrow := heap_alloc_new w (.cells #[.string r.name, .int .i64 r.kind, .slice ra m rc, .int .i64 r.low, .int .i64 r.high, .string r.schema, .string r.table, .string r.key] 56)
  have hkw : Keeps (· < B) w (w.alloc (.cells #[.string r.name, .int .i64 r.kind, .slice ra m rc, .int .i64 r.low, .int .i64 r.high, .string r.schema, .string r.table, .string r.key] 56)) := Keeps.of_below hg fun j hj => Nat.lt_of_lt_of_le hj hB
  have HK := Lib.hid (prog_kinds_any ra m rc B r.cols a n c l _ (strs_keep hr (fun _ h => h) hkw) (cols_keep h (fun _ h => h) hkw) (Nat.le_trans hB hkw.size) h30)
  have hsz : w.heap.size < (w.alloc (.cells #[.string r.name, .int .i64 r.kind, .slice ra m rc, .int .i64 r.low, .int .i64 r.high, .string r.schema, .string r.table, .string r.key] 56)).heap.size := by simp
  have HN := Lib.hid prog_name_any
  have HN1 := Lib.hid (HN.out r.name)
  have HHD := Lib.hid (fun (h : 0 < r.cols.length) => show kindAt l (colI l (r.cols.headD ⟨#[]⟩)) = (r.cols.map fun s => kindAt l (colI l s)).headD 0 by
    cases hc : r.cols with
    | nil => rw [hc] at h; simp at h
    | cons x y => rfl)
  clear h hr hnm hky hch hfo hot hni hpo hml hkw
  go_enter Try.func96, Try.ntmps96
  go_wp2_with fail
  have HBX := Lib.hid hbox
  have HG := Lib.hid hg
  have HROW := Lib.hid hrow
  clear hbox hg hfr hrow
  generalize hw1 : World.alloc w _ = w1 at *
  clear hw1
  refine HK.out.mono ?_
  rintro e w2 ⟨kv, rfl, hkv, hb2⟩
  clear HK
  obtain ⟨ka, kc, rfl, hk1, hk2⟩ := hkv.form
  unfold maxLen at hk2
  have HKV := Lib.hid hkv
  have hbw := HG.out.trans (hb2.mono (Nat.le_of_lt hsz))
  have hbx2 := fun j v hj => (hb2.cell (p := ⟨w.heap.size, j, none⟩) hsz).trans (HBX.out j v hj)
  have HROW2 := Lib.hid ((hb2.block w.heap.size hsz).trans HROW.out)
  have HBW := Lib.hid hbw
  have b0 := hbx2 0 _ rfl
  have b1 := hbx2 1 _ rfl
  have b3 := hbx2 3 _ rfl
  have b4 := hbx2 4 _ rfl
  have b5 := hbx2 5 _ rfl
  have b6 := hbx2 6 _ rfl
  have b7 := hbx2 7 _ rfl
  have z3 := frozen_of_row _ _ 3 _ _ HROW2.out
  have z4 := frozen_of_row _ _ 4 _ _ HROW2.out
  obtain ⟨kn, hkn⟩ : ∃ kn, (kindsL l r.cols).length = kn := ⟨_, rfl⟩
  have HKN := Lib.hid hkn
  rw [hkn] at hk1 ⊢
  clear hbx2 hb2 hkv hkn hbw
  cases hnn : nameB r.name with
  | false =>
    rw [hnn] at HN1
    have HF := Lib.hid (HNM.out hnn)
    clear hnn
    go_wp2_with (go_at_call 12; refine (HN1.out _).mono ?_; rintro e w' ⟨rfl, rfl⟩)
    go_ret
    exact ⟨by rw [HF.out]; rfl, HBW.out⟩
  | true =>
    rw [hnn] at HN1
    by_cases hm0 : kn = 0
    · have HF := Lib.hid (HNI.out (by rw [HKN.out]; exact hm0))
      subst hm0
      clear hnn
      go_wp2_with (go_at_call 12; refine (HN1.out _).mono ?_; rintro e w' ⟨rfl, rfl⟩)
      go_ret
      exact ⟨by rw [HF.out]; rfl, HBW.out⟩
    · have hm1 : ((kn : Int) == 0) = false := by rw [beq_eq_false_iff_ne]; omega
      obtain ⟨hall, hkm⟩ := HPO.out (by rw [HKN.out]; omega)
      have hlen : r.cols.length = kn := by have := HKN.out; rw [hkm, List.length_map] at this; exact this
      have hky := HKY.out hall hnn (by omega)
      have hch := HCH.out hall hnn (by omega)
      have hfo := HFO.out hall hnn (by omega)
      have HHL := Lib.hid hlen
      by_cases h12 : r.kind = 1 ∨ r.kind = 2
      · have HF := Lib.hid (hky h12)
        clear hky hch hfo hnn hall hkm hlen
        generalize r.schema = rs at *
        generalize r.table = rt at *
        generalize r.key = ry at *
        generalize r.low = lo at *
        generalize r.high = hi at *
        generalize r.kind = rk at *
        rcases h12 with rfl | rfl
        all_goals
          go_wp2_with (go_at_call 12; refine (HN1.out _).mono ?_; rintro e w' ⟨rfl, rfl⟩)
          all_goals
            go_ret
            exact ⟨by rw [HF.out]; first | (simp [*]; done) | (simp [*, isEmpty_dec]; done) | (simp [*]; rfl), HBW.out⟩
      · by_cases h3 : r.kind = 3
        · have HF := Lib.hid (hch h3)
          have hd0 := HHD.out (by omega)
          obtain ⟨g, cap', x, hgs, _, _, hgB, hx, hcl⟩ := HKV.out.at kin_stays (k := 0) (by rw [HKN.out]; omega)
          rw [HKN.out] at hgs
          injection hgs with hga hgb hgc
          subst hga hgc
          have hk0 : (kindsL l r.cols)[0]'(by rw [HKN.out]; omega) = kindAt l (colI l (r.cols.headD ⟨#[]⟩)) := by
            rw [hd0]
            simp only [hkm]
            rw [List.headD_eq_head?_getD, List.head?_eq_getElem?, List.getElem?_eq_getElem (by rw [List.length_map]; omega)]
            rfl
          rw [hk0] at hx
          obtain rfl : x = [.int .i64 (kindAt l (colI l (r.cols.headD ⟨#[]⟩)))] := hx
          have c0 : w2.cell? ⟨g, 0, none⟩ = some (.int .i64 (kindAt l (colI l (r.cols.headD ⟨#[]⟩)))) := by have := hcl 0 _ rfl; simpa using this
          have hg2 : g ≠ w.heap.size := by have := hgB.1; omega
          rw [hlen] at HF
          clear hky hch hfo hnn hall hkm hlen hd0 hk0 hcl
          generalize kindAt l (colI l (r.cols.headD ⟨#[]⟩)) = kq at *
          generalize r.schema = rs at *
          generalize r.table = rt at *
          generalize r.key = ry at *
          generalize r.low = lo at *
          generalize r.high = hi at *
          generalize r.kind = rk at *
          subst h3
          have HPUT := Lib.hid (fun (x y : Value) => below_put (p := ⟨w.heap.size, 4, none⟩) (below_put (p := ⟨w.heap.size, 3, none⟩) HBW.out (Nat.le_refl _) x) (Nat.le_refl _) y)
          by_cases hkn1 : kn = 1
          · have i1 : ¬ (1 : Int) < (kn : Int) := by omega
            by_cases hkq : kq = 2
            · subst hkn1 hkq
              by_cases hlo : hi < lo
              · go_wp2_with (go_at_call 12; refine (HN1.out _).mono ?_; rintro e w' ⟨rfl, rfl⟩)
                all_goals
                  go_ret
                  exact ⟨by rw [HF.out]; first | (simp [*]; done) | (simp [*, isEmpty_dec]; done) | (simp [*]; omega) | (simp [*]; rfl), HBW.out⟩
              · have hlo2 : lo ≤ hi := by omega
                go_wp2_with (go_at_call 12; refine (HN1.out _).mono ?_; rintro e w' ⟨rfl, rfl⟩)
                all_goals
                  go_ret
                  exact ⟨by rw [HF.out]; first | (simp [*]; done) | (simp [*, isEmpty_dec]; done) | (simp [*]; rfl), HPUT.out _ _⟩
            · have e1 : (kq == 2) = false := by rw [beq_eq_false_iff_ne]; exact hkq
              have e2 : (kq != 2) = true := by rw [bne_iff_ne]; exact hkq
              subst hkn1
              go_wp2_with (go_at_call 12; refine (HN1.out _).mono ?_; rintro e w' ⟨rfl, rfl⟩)
              all_goals
                go_ret
                exact ⟨by rw [HF.out]; first | (simp [*]; done) | (simp [*, isEmpty_dec]; done) | (simp [*]; rfl), HBW.out⟩
          · have i1 : (1 : Int) < (kn : Int) := by omega
            have hmd : decide (kn = 1) = false := decide_eq_false hkn1
            rw [hmd] at HF
            go_wp2_with (go_at_call 12; refine (HN1.out _).mono ?_; rintro e w' ⟨rfl, rfl⟩)
            all_goals
              go_ret
              exact ⟨by rw [HF.out]; simp, HBW.out⟩
        · by_cases h4 : r.kind = 4
          · have HF := Lib.hid (hfo h4)
            clear hky hch hfo hnn hall h12 hkm hlen
            have HNa := Lib.hid (HN.out r.schema)
            have HNb := Lib.hid (HN.out r.table)
            have HNc := Lib.hid (HN.out r.key)
            clear HN
            generalize nameB r.schema = p1 at *
            generalize nameB r.table = p2 at *
            generalize nameB r.key = p3 at *
            generalize r.schema = rs at *
            generalize r.table = rt at *
            generalize r.key = ry at *
            generalize r.low = lo at *
            generalize r.high = hi at *
            generalize r.kind = rk at *
            subst h4
            cases p1 <;> cases p2 <;> cases p3
            all_goals
              go_wp2_with fail
              refine (HN1.out _).mono ?_
              rintro e w' ⟨rfl, rfl⟩
              go_wp2_with (first
                | (go_at_call_of 12 (Value.string rs); refine (HNa.out _).mono ?_; rintro e w' ⟨rfl, rfl⟩)
                | (go_at_call_of 12 (Value.string rt); refine (HNb.out _).mono ?_; rintro e w' ⟨rfl, rfl⟩)
                | (go_at_call_of 12 (Value.string ry); refine (HNc.out _).mono ?_; rintro e w' ⟨rfl, rfl⟩))
              all_goals
                go_ret
                exact ⟨by rw [HF.out]; first | (simp [*]; done) | (simp [*, isEmpty_dec]; done) | (simp [*]; rfl), HBW.out⟩
          · have HF := Lib.hid (HOT.out (fun e => h12 (.inl e)) (fun e => h12 (.inr e)) h3 h4)
            have e1 : (r.kind == 1) = false := by simpa using fun e => h12 (.inl e)
            have e2 : (r.kind == 2) = false := by simpa using fun e => h12 (.inr e)
            have e3 : (r.kind == 3) = false := by simpa using h3
            have e4 : (r.kind == 4) = false := by simpa using h4
            clear hky hch hfo hnn hall h12 h3 h4 hkm hlen
            generalize r.kind = rk at *
            generalize r.schema = rs at *
            generalize r.table = rt at *
            generalize r.key = ry at *
            go_wp2_with (go_at_call 12; refine (HN1.out _).mono ?_; rintro e w' ⟨rfl, rfl⟩)
            all_goals
              go_ret
              exact ⟨by rw [HF.out]; rfl, HBW.out⟩
end Go.Proofs.Ytkghkioghkapcaa
