/-
  Layer 8, the program, by contract: hasRing, is.
-/
import Derived.Test.YtekhkmhpeefenaaRolB
namespace Go.Proofs.Ytekhkmhpeefenaa
set_option linter.unusedVariables false
open Go.RowKit Go.Sort

noncomputable def cycB (ms : List Mem) : Bool := @decide (Cyc ms) (Classical.propDecidable _)
theorem cycB_iff {ms : List Mem} : cycB ms = true ↔ Cyc ms := by unfold cycB; rw [@decide_eq_true_iff _ (Classical.propDecidable _)]
theorem bool_same {a b : Bool} {p : Prop} (h1 : a = true ↔ p) (h2 : b = true ↔ p) : a = b := by
  cases a <;> cases b <;> simp_all

set_option maxRecDepth 100000 in
set_option maxHeartbeats 4000000 in
theorem prog_ring_any (B : Nat) (vn vm : Value) (r : Rols) (w : World) (h : rolP w (· < B) [vn, vm] r) (hB : B ≤ w.heap.size) (hs : smallR 3000 r) (hsh : shortR r) (hin : ∀ m ∈ r.mems, m.role ∈ r.names) :
    Calls Try.prog 34 #[.agg #[vn, vm]] w fun e w' => e = .returned (.bool (cycB r.mems)) ∧ Below w.heap.size w w' := by
  obtain ⟨_, _, hv, hn, hm⟩ := h
  simp only [List.cons.injEq, and_true] at hv
  obtain ⟨rfl, rfl⟩ := hv
  obtain ⟨na, nc, rfl, _, hnm⟩ := hn.form
  obtain ⟨ma, mc, rfl, _, hmm⟩ := hm.form
  have hk := keeps_alloc w B (.cells #[.slice na r.names.length nc, .slice ma r.mems.length mc] 25)
  have hb := box_two w (.slice na r.names.length nc) (.slice ma r.mems.length mc) 25
  have hbel := (Below.refl w.heap.size w).alloc (Nat.le_refl _) (.cells #[.slice na r.names.length nc, .slice ma r.mems.length mc] 25)
  have hT := prog_through_any B ma r.mems.length mc na r.names.length nc r.mems r.names _ (Nat.le_trans hB hbel.size) (mems_keep hm (fun _ h => h) hk) (strs_keep hn (fun _ h => h) hk) (fun m hm => (hsh.2 m hm).2) hsh.1 hs.2 hs.1
  have HT := Lib.hid hT; have HBEL := Lib.hid hbel; have HIN := Lib.hid hin
  clear hT hbel hk hn hm hs hsh hin
  obtain ⟨b0, b1⟩ := hb
  generalize r.names.length = nn at *
  generalize r.mems.length = mn at *
  go_enter Try.func34, Try.ntmps34
  go_wp2_with fail
  refine HT.out.mono ?_
  rintro e w2 ⟨b, n, c, g, rfl, hc, ht, hb2⟩
  have HF := Lib.hid (And.intro (bool_same (ht.ring HIN.out) cycB_iff) (below_on HBEL.out (Nat.le_refl _) hb2))
  clear hc ht hb2
  go_wp2_with fail
  go_ret
  exact ⟨by rw [HF.out.1]; rfl, HF.out.2⟩

set_option maxRecDepth 100000 in
set_option maxHeartbeats 4000000 in
theorem prog_is_any' (B : Nat) (vn vm : Value) (r : Rols) (x y : ByteArray) (w : World) (h : rolP w (· < B) [vn, vm] r) (hB : B ≤ w.heap.size) (hs : smallR 3000 r) (hsh : shortR r) (hx : x.size ≤ maxLen) (hy : y.size ≤ maxLen) :
    Calls Try.prog 51 #[.agg #[vn, vm], .string x, .string y] w fun e w' => e = .returned (.bool (wayB r.mems x y)) ∧ Below w.heap.size w w' := by
  obtain ⟨_, _, hv, hn, hm⟩ := h
  simp only [List.cons.injEq, and_true] at hv
  obtain ⟨rfl, rfl⟩ := hv
  obtain ⟨na, nc, rfl, _, hnm⟩ := hn.form
  obtain ⟨ma, mc, rfl, _, hmm⟩ := hm.form
  obtain ⟨w1, hw1⟩ : ∃ w1, w1 = w.alloc (.cells #[.slice na r.names.length nc, .slice ma r.mems.length mc] 25) := ⟨_, rfl⟩
  have hb := box_two w (.slice na r.names.length nc) (.slice ma r.mems.length mc) 25
  have hk := keeps_alloc w B (.cells #[.slice na r.names.length nc, .slice ma r.mems.length mc] 25)
  have hbel := (Below.refl w.heap.size w).alloc (Nat.le_refl _) (.cells #[.slice na r.names.length nc, .slice ma r.mems.length mc] 25)
  have hs1 := size_box w (.cells #[.slice na r.names.length nc, .slice ma r.mems.length mc] 25)
  rw [← hw1] at hk hbel hs1
  have hk2 := keeps_alloc w1 (B := w1.heap.size) (.cells #[.string x] 9)
  have hs2 := size_box w1 (.cells #[.string x] 9)
  have hr2 := heap_alloc_new w1 (.cells #[.string x] 9)
  have hbel2 := (Below.refl w1.heap.size w1).alloc (Nat.le_refl _) (.cells #[.string x] 9)
  have hT := prog_through_any (w1.heap.size + 1) ma r.mems.length mc (some ⟨w1.heap.size, 0, none⟩) 1 1 r.mems [x] (w1.alloc (.cells #[.string x] 9)) (Nat.le_of_eq hs2.symm) ((mems_keep hm (fun _ h => h) hk).keep (fun k hk => by omega) (hk2.mono fun k hk => by omega) fun _ _ _ h => h)
    ⟨_, 1, [[.string x]], rfl, Nat.le_refl _, by unfold maxLen; omega, .inr ⟨w1.heap.size, 0, rfl, by omega, fun i z hz j u hu => by
      cases i with
      | zero =>
        simp only [List.getElem?_cons_zero, Option.some.injEq] at hz
        subst hz
        cases j with
        | zero => simp only [List.getElem?_cons_zero, Option.some.injEq] at hu; subst hu; exact box_at hr2 0 rfl
        | succ j => simp at hu
      | succ i => simp at hz⟩, rfl, fun i z l hz hl => by
      cases i with
      | zero => simp at hz hl; subst hz hl; rfl
      | succ i => simp at hz⟩ (fun m hm => (hsh.2 m hm).2) (fun z hz => by rw [List.mem_singleton.1 hz]; exact hx) hs.2 (by omega)
  rw [hs1] at hT
  have HT := Lib.hid hT; have HBEL := Lib.hid (hbel.trans (hbel2.mono (by omega))); have HY := Lib.hid hy
  have HS := Lib.hid (show w.heap.size ≤ (w1.alloc (.cells #[.string x] 9)).heap.size by omega)
  clear hT hbel hk hn hm hs hsh hbel2 hr2 hs2 hk2 hs1
  obtain ⟨b0, b1⟩ := hb
  generalize r.names.length = nn at *
  generalize r.mems.length = mn at *
  subst hw1
  go_enter Try.func51, Try.ntmps51
  go_wp2_with fail
  refine HT.out.mono ?_
  rintro e w2 ⟨b, n, c, g, rfl, hc, ht, hb2⟩
  have hl := hc.look HY.out
  have hse := ht.seen y
  have HF := Lib.hid (below_on HBEL.out (Nat.le_refl _) hb2)
  clear hc ht hb2
  by_cases h0 : c y = 0
  · have q : (c y != 0) = false := by simpa using h0
    have HW := Lib.hid (wayB_no.2 (hse.1 h0))
    rw [h0] at hl
    clear hse h0
    go_wp2_with fail
    go_ret
    exact ⟨by rw [HW.out]; rfl, HF.out⟩
  · have q : (c y != 0) = true := by simpa using h0
    have HW := Lib.hid (show wayB r.mems x y = true by
      rw [wayB_iff]
      exact Classical.byContradiction fun hn => h0 (hse.2 hn))
    clear hse h0
    go_wp2_with fail
    go_ret
    exact ⟨by rw [HW.out]; rfl, HF.out⟩
end Go.Proofs.Ytekhkmhpeefenaa
