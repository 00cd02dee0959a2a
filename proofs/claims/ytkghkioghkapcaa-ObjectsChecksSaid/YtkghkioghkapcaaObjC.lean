/-
  The document's answer for layer 7, by contract: Columns, Fits.
-/
import Derived.Test.YtkghkioghkapcaaObjB
import Derived.Shelf.SlicesQ.Load
import Derived.BigQuiet
namespace Go.Proofs.Ytkghkioghkapcaa
open Go.RowKit Go.Sort

theorem all_range_iff {p : Nat → Bool} {n : Nat} : (List.range n).all p = true ↔ ∀ k, k < n → p k = true := by simp [List.all_eq_true]
theorem all_range_no {p : Nat → Bool} {n k : Nat} (h : k < n) (hp : p k = false) : (List.range n).all p = false := by
  rw [List.all_eq_false]; exact ⟨k, by simpa using h, by simp [hp]⟩
theorem upto_succ {p : Nat → Bool} {k : Nat} (h : ∀ j, j < k → p j = true) (hp : p k = true) : ∀ j, j < k + 1 → p j = true := fun j hj => by
  by_cases e : j = k
  · subst e; exact hp
  · exact h j (by omega)
theorem Lst.take {α : Type} {w : World} {S : Nat → Prop} {P : List Value → α → Prop} {sz : Nat} {a : Option Addr} {n cap : Nat} {l : List α} (h : Lst w S P sz (.slice a n cap) l) {k : Nat} (hk : k ≤ n) : Lst w S P sz (.slice a k cap) (l.take k) := by
  obtain ⟨hl, hc, hm⟩ := h.len
  obtain ⟨a', cap', xss, h1, h2, h3, h4, h5, h6⟩ := h
  simp only [Value.slice.injEq] at h1
  obtain ⟨rfl, _, rfl⟩ := h1
  have hlk : (l.take k).length = k := by rw [List.length_take]; omega
  refine ⟨a, cap, xss.take k, by rw [hlk], by omega, hm, ?_, by rw [hlk, List.length_take]; omega, fun i x y hx hy => ?_⟩
  · rcases h4 with rfl | ⟨b, o, ha, hb, hc4⟩
    · exact .inl (by simp)
    · exact .inr ⟨b, o, ha, hb, fun i x hx j v hv => hc4 i x (by
        rw [List.getElem?_take] at hx
        split at hx
        · exact hx
        · cases hx) j v hv⟩
  · rw [List.getElem?_take] at hx hy
    split at hx
    · rw [if_pos ‹_›] at hy; exact h6 i x y hx hy
    · cases hx
theorem colsAt_get {l : List Col} {k : Nat} (h : k < l.length) : colsAt l k = (oneB l[k] && decide (colI (l.take k) l[k].name < 0)) := by unfold colsAt; rw [List.getElem?_eq_getElem h]

/-- A struct of three cells in an old block, loaded in a world of the region's. -/
theorem load_three {P : Program} {w : World} {b o : Nat} {x y z : Value} (hb : b < w.heap.size) (h0 : w.cell? ⟨b, o, none⟩ = some x) (h1 : w.cell? ⟨b, o + 1, none⟩ = some y) (h2 : w.cell? ⟨b, o + 2, none⟩ = some z) (n : Nat) (os : Array Obj) :
    Sem.run P (loadCellsFrom ⟨b, o, none⟩ 0 3 #[]) (grow (w.drewN n) os) = .ok #[x, y, z] (grow (w.drewN n) os) :=
  run_loadCellsFrom_list P _ _ [x, y, z] 3 rfl fun j v hv => by
    match j, hv with
    | 0, hv => cases hv; exact cell_grown (a := ⟨b, o, none⟩) hb h0 n os
    | 1, hv => cases hv; exact cell_grown (a := ⟨b, o + 1, none⟩) hb h1 n os
    | 2, hv => cases hv; exact cell_grown (a := ⟨b, o + 2, none⟩) hb h2 n os
    | j + 3, hv => simp at hv
/-- A callee that is known to grow the world, at a world of the region's. -/
theorem gr_call {P : Program} {f : FuncId} {args : Array Value} {w : World} {n : Nat} {os : Array Obj} {v : Value} (h : ∀ W, Calls P f args W fun e w' => e = .returned v ∧ Gr W w') :
    Calls P f args (grow (w.drewN n) os) fun e w'' => e = .returned v ∧ ∃ p : GrownBy, w'' = grow (w.drewN p.n) p.os := Calls.grown_of (h _)
theorem gr_same {P : Program} {f : FuncId} {args : Array Value} {v : Value} (h : ∀ W, Calls P f args W fun e w' => e = .returned v ∧ W = w') : ∀ W, Calls P f args W fun e w' => e = .returned v ∧ Gr W w' :=
  fun W => (h W).mono fun _ _ ⟨he, hw⟩ => ⟨he, by subst hw; exact Gr.refl _⟩
/-- A callee whose contract holds from a world on. -/
theorem gr_from {P : Program} {f : FuncId} {args : Array Value} {w : World} {n : Nat} {os : Array Obj} {v : Value} (h : ∀ W, Gr w W → Calls P f args W fun e w' => e = .returned v ∧ Gr W w') :
    Calls P f args (grow (w.drewN n) os) fun e w'' => e = .returned v ∧ ∃ p : GrownBy, w'' = grow (w.drewN p.n) p.os := Calls.grown_of (h _ (Gr.grown w n os))

set_option maxHeartbeats 4000000 in
theorem ref_columns_any (a : Option Addr) (n c B : Nat) (l : List Col) (w : World) (h : Lst w (· < B) colP 3 (.slice a n c) l) (hB : B ≤ w.heap.size) :
    Calls Try.prog 76 #[.slice a n c] w fun e w' => e = .returned (.bool (colsB l)) ∧ Gr w w' := by
  have mixed := mixed_ok
  obtain ⟨hl, hc, hm⟩ := h.len
  unfold maxLen at hm
  have HL := Lib.hid hl
  by_cases h18 : 1 ≤ n ∧ n ≤ 8
  · have hyes : (∀ k, k < n → colsAt l k = true) → colsB l = true := fun h => by
      unfold colsB; rw [hl, decide_eq_true h18, all_range_iff.2 h]; rfl
    have hno : ∀ k, k < n → colsAt l k = false → colsB l = false := fun k hk hf => by
      unfold colsB; rw [hl, all_range_no hk hf, Bool.and_false]
    have HY := Lib.hid hyes; have HNO := Lib.hid hno
    obtain ⟨g1, g2⟩ := h18
    clear hyes hno hl
    have HH := Lib.hid h; clear h
    go_enter Try.func76, Try.ntmps76
    go_wp2_with fail
    go_loopw [3] (fun i wr => ∃ k : Nat, k ≤ n ∧ i = .int .i64 k ∧ Hid (∀ j, j < k → colsAt l j = true) ∧ Gr w wr) (fun i _ => n - (intOf i).toNat)
    case atStart => exact ⟨0, Nat.zero_le _, rfl, Lib.hid (fun _ h => by omega), Gr.refl _⟩
    case round =>
      obtain ⟨k, hk, rfl, hn, hbw⟩ := hrel
      by_cases hlt : k < n
      · have lk : k < l.length := by rw [HL.out]; exact hlt
        obtain ⟨b, o, x, rfl, hbB, hx, hcl⟩ := HH.out.at lk
        have x0 := hcl 0 (.string l[k].name) (by rw [hx]; rfl)
        have x1 := hcl 1 (.int .i64 l[k].kind) (by rw [hx]; rfl)
        have x2 := hcl 2 (.bool l[k].null) (by rw [hx]; rfl)
        have hat := colsAt_get lk
        have HTK := Lib.hid (fun (W : World) (hW : Gr wr W) => (ref_column_any (some ⟨b, o, none⟩) k c B (l.take k) l[k].name W (cols_keep (HH.out.take hk) (fun _ h => h) ((hbw.trans hW).keeps fun j hj => Nat.lt_of_lt_of_le hj hB))).mono (R' := fun e w' => e = .returned (.int .i64 (colI (l.take k) l[k].name)) ∧ Gr W w') fun _ _ ⟨h1, h2⟩ => ⟨h1, by subst h2; exact Gr.refl _⟩)
        have hno := HNO.out k hlt
        have hst := fun h => upto_succ hn.out h
        have k0 : (0 : Int) ≤ (k : Int) := by omega
        have k1 : (k : Int) < (n : Int) := by omega
        have k2 : (k : Int) ≤ (c : Int) := by omega
        rw [Nat.add_zero] at x0
        clear hcl hx
        generalize hcol : l[k] = col at *
        clear hcol
        have hbl : b < w.heap.size := Nat.lt_of_lt_of_le hbB hB
        have hbr : b < wr.heap.size := Nat.lt_of_lt_of_le hbl hbw.below.size
        have c0 := fun n' os => cell_grown (w := wr) (a := ⟨b, o + k * 3, none⟩) hbr ((hbw.below.cell (p := ⟨b, o + k * 3, none⟩) hbl).trans x0) n' os
        have c1 := fun n' os => cell_grown (w := wr) (a := ⟨b, o + k * 3 + 1, none⟩) hbr ((hbw.below.cell (p := ⟨b, o + k * 3 + 1, none⟩) hbl).trans x1) n' os
        have c2 := fun n' os => cell_grown (w := wr) (a := ⟨b, o + k * 3 + 2, none⟩) hbr ((hbw.below.cell (p := ⟨b, o + k * 3 + 2, none⟩) hbl).trans x2) n' os
        have hld := load_three (P := Try.prog) (w := wr) (b := b) (o := o + k * 3) hbr ((hbw.below.cell (p := ⟨b, o + k * 3, none⟩) hbl).trans x0) ((hbw.below.cell (p := ⟨b, o + k * 3 + 1, none⟩) hbl).trans x1) ((hbw.below.cell (p := ⟨b, o + k * 3 + 2, none⟩) hbl).trans x2)
        have HO := Lib.hid (ref_one_any col)
        clear x0 x1 x2
        cases hone : oneB col with
        | false =>
          rw [hone] at HO hat
          have HF := Lib.hid (hno hat)
          clear hat hno hst hone
          go_wp2_with fail
          refine Go.wp_region_quiet_grown mixed (by kernel_rfl) ?_
          repeat (go_big_quiet_step (first | (go_at_call 85; exact gr_call HO.out)))
          refine Go.wpQuiet_nil ?_
          intro _ hw'
          obtain ⟨⟨nq, osq⟩, hw''⟩ := hw'
          subst hw''
          go_wp2_with fail
          go_ret
          exact ⟨by rw [HF.out]; rfl, hbw.trans (Gr.grown _ _ _)⟩
        | true =>
          rw [hone, Bool.true_and] at hat
          rw [hone] at HO
          have hge := idxI_ge (fun c => eqT c.name col.name) (l.take k)
          have hge' : -1 ≤ colI (l.take k) col.name := hge
          clear hge hone
          generalize colI (l.take k) col.name = q at *
          by_cases hq : q < 0
          · have HS := Lib.hid (hst (by rw [hat]; exact decide_eq_true hq))
            have hq0 : decide ((0 : Int) ≤ q) = false := by simp; omega
            clear hat hno hst
            go_wp2_with fail
            refine Go.wp_region_quiet_grown mixed (by kernel_rfl) ?_
            repeat (go_big_quiet_step (first
              | (go_at_call 85; exact gr_call HO.out)
              | (go_at_call 86; exact gr_from HTK.out)))
            refine Go.wpQuiet_nil ?_
            intro _ hw'
            obtain ⟨⟨nq, osq⟩, hw''⟩ := hw'
            subst hw''
            go_wp2_with fail
            go_roundw
            case rel => exact ⟨k + 1, by omega, by go_num, HS, hbw.trans (Gr.grown _ _ _)⟩
            case measure => simp [intOf]; omega
          · have HF := Lib.hid (hno (by rw [hat]; exact decide_eq_false hq))
            have hq0 : decide ((0 : Int) ≤ q) = true := by simp; omega
            clear hat hno hst
            go_wp2_with fail
            refine Go.wp_region_quiet_grown mixed (by kernel_rfl) ?_
            repeat (go_big_quiet_step (first
              | (go_at_call 85; exact gr_call HO.out)
              | (go_at_call 86; exact gr_from HTK.out)))
            refine Go.wpQuiet_nil ?_
            intro _ hw'
            obtain ⟨⟨nq, osq⟩, hw''⟩ := hw'
            subst hw''
            go_wp2_with fail
            go_ret
            exact ⟨by rw [HF.out]; rfl, hbw.trans (Gr.grown _ _ _)⟩
      · have HF := Lib.hid (HY.out fun j hj => hn.out j (by omega))
        go_wp2_with fail
        go_ret
        exact ⟨by rw [HF.out]; rfl, hbw⟩
  · have hf : colsB l = false := by unfold colsB; rw [hl, decide_eq_false h18]; rfl
    have HF := Lib.hid hf
    clear hf h hl
    go_enter Try.func76, Try.ntmps76
    go_wp2_with fail
    all_goals (first | (exfalso; omega) | (go_ret; exact ⟨by rw [HF.out]; rfl, Gr.refl _⟩))
end Go.Proofs.Ytkghkioghkapcaa
