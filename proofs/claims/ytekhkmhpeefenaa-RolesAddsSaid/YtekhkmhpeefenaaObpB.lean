/-
  Layer 7, the program, by contract: orders and places. (Made by wip/gen_obp.py.)
-/
import Derived.Test.YtekhkmhpeefenaaObpA
import Derived.Test.YtekhkmhpeefenaaObjO
import Derived.Test.YtekhkmhpeefenaaObjC
import Derived.Shelf.Abstract
namespace Go.Proofs.Ytekhkmhpeefenaa
open Go.RowKit Go.Sort Go.Shelf

theorem Lst.load {α : Type} {P : Program} {Q : Elem α} {sz : Nat} {w : World} {S : Nat → Prop} {a : Option Addr} {n cap : Nat} {l : List α} (h : Lst w S (Q w S) sz (.slice a n cap) l) (hQ : Stays Q sz) {k : Nat} (hk : k < l.length) (hz : sz ≠ 0 := by decide) :
    ∃ b o x, a = some ⟨b, o, none⟩ ∧ S b ∧ b < w.heap.size ∧ Q w S x l[k] ∧ ∀ W, Below w.heap.size w W → Sem.run P (loadCellsFrom ⟨b, o + k * sz, none⟩ 0 sz #[]) W = .ok x.toArray W := by
  obtain ⟨b, o, x, ha, hb, hx, hc⟩ := h.at hk
  have hsz := hQ.size hx
  have hb' : b < w.heap.size := by
    have h1 := hc 0 (x[0]'(by omega)) (List.getElem?_eq_getElem (by omega))
    exact World.block_lt_of_cell? w _ h1
  refine ⟨b, o, x, ha, hb, hb', hx, fun W hW => run_loadCellsFrom_list P _ _ x sz hsz fun i v hi => ?_⟩
  rw [Addr.add_lit, hW.cell (p := ⟨b, o + k * sz + i, none⟩) hb']
  exact hc i v hi
def cmpI (a b : ByteArray) : Int := if ltT a b then -1 else if ltT b a then 1 else 0
theorem eqT_self (a : ByteArray) : (a.toList == a.toList) = true := by simp
theorem prog_nan_any (a : ByteArray) (w : World) : Calls Try.prog 76 #[.string a] w fun e w' => e = .returned (.bool false) ∧ w = w' := by
  have h := eqT_self a
  have h2 : (a.toList != a.toList) = false := by simp
  go_enter Try.func76, Try.ntmps76
  go_wp2
  go_ret
  exact ⟨rfl, rfl⟩
theorem prog_cmp_any (a b : ByteArray) (w : World) : Calls Try.prog 71 #[.string a, .string b] w fun e w' => e = .returned (.int .i64 (cmpI a b)) ∧ w = w' := by
  cases h1 : ltT a b with
  | true =>
    have HF := Lib.hid (show cmpI a b = -1 by unfold cmpI; rw [h1]; rfl)
    have e1 : Op.bytesLess a.toList b.toList = true := h1
    clear h1
    go_enter Try.func71, Try.ntmps71
    go_wp2_with (go_at_call 76; refine (prog_nan_any _ _).mono ?_; rintro e w' ⟨rfl, rfl⟩)
    go_ret
    exact ⟨by rw [HF.out]; rfl, rfl⟩
  | false =>
    have e1 : Op.bytesLess a.toList b.toList = false := h1
    cases h2 : eqT a b with
    | true =>
      have HF := Lib.hid (show cmpI a b = 0 by obtain rfl := eqT_iff.1 h2; unfold cmpI; rw [ltT_irr]; rfl)
      have e2 : (a.toList == b.toList) = true := h2
      clear h1 h2
      go_enter Try.func71, Try.ntmps71
      go_wp2_with (go_at_call 76; refine (prog_nan_any _ _).mono ?_; rintro e w' ⟨rfl, rfl⟩)
      go_ret
      exact ⟨by rw [HF.out]; rfl, rfl⟩
    | false =>
      have HF := Lib.hid (show cmpI a b = 1 by
        unfold cmpI
        rw [h1]
        rcases ltT_or (a := a) (b := b) with h | h | h
        · rw [h1] at h; cases h
        · exact absurd h (eqT_no.1 h2)
        · rw [h]; rfl)
      have e2 : (a.toList == b.toList) = false := h2
      clear h1 h2
      go_enter Try.func71, Try.ntmps71
      go_wp2_with (go_at_call 76; refine (prog_nan_any _ _).mono ?_; rintro e w' ⟨rfl, rfl⟩)
      go_ret
      exact ⟨by rw [HF.out]; rfl, rfl⟩

end Go.Proofs.Ytekhkmhpeefenaa
