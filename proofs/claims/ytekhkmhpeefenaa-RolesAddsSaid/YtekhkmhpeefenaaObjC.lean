/-
  The document's answer for layer 7, by contract: Columns, Fits.
-/
import Derived.Test.YtekhkmhpeefenaaObjB
import Derived.Shelf.SlicesQ.Load
import Derived.BigQuiet
namespace Go.Proofs.Ytekhkmhpeefenaa
open Go.RowKit Go.Sort

theorem all_range_iff {p : Nat → Bool} {n : Nat} : (List.range n).all p = true ↔ ∀ k, k < n → p k = true := by simp [List.all_eq_true]
theorem all_range_no {p : Nat → Bool} {n k : Nat} (h : k < n) (hp : p k = false) : (List.range n).all p = false := by
  rw [List.all_eq_false]; exact ⟨k, by simpa using h, by simp [hp]⟩
theorem upto_succ {p : Nat → Bool} {k : Nat} (h : ∀ j, j < k → p j = true) (hp : p k = true) : ∀ j, j < k + 1 → p j = true := fun j hj => by
  by_cases e : j = k
  · subst e; exact hp
  · exact h j (by omega)
theorem Lst.take {α : Type} {w : World} {S : Nat → Prop} {P : List Value → α → Prop} {sz : Nat} {a : Option Addr} {n cap : Nat} {l : List α} (h : Lst w S P sz (.slice a n cap) l) {k : Nat} (hk : k ≤ n) : Lst w S P sz (.slice a k cap) (l.take k) := by
  obtain ⟨hl, hc, hm⟩ := h.len
  obtain ⟨a', cap', xss, h1, h2, h3, h4, h5, h6⟩ := h
  simp only [Value.slice.injEq] at h1
  obtain ⟨rfl, _, rfl⟩ := h1
  have hlk : (l.take k).length = k := by rw [List.length_take]; omega
  refine ⟨a, cap, xss.take k, by rw [hlk], by omega, hm, ?_, by rw [hlk, List.length_take]; omega, fun i x y hx hy => ?_⟩
  · rcases h4 with rfl | ⟨b, o, ha, hb, hc4⟩
    · exact .inl (by simp)
    · exact .inr ⟨b, o, ha, hb, fun i x hx j v hv => hc4 i x (by
        rw [List.getElem?_take] at hx
        split at hx
        · exact hx
        · cases hx) j v hv⟩
  · rw [List.getElem?_take] at hx hy
    split at hx
    · rw [if_pos ‹_›] at hy; exact h6 i x y hx hy
    · cases hx
theorem colsAt_get {l : List Col} {k : Nat} (h : k < l.length) : colsAt l k = (oneB l[k] && decide (colI (l.take k) l[k].name < 0)) := by unfold colsAt; rw [List.getElem?_eq_getElem h]

/-- A struct of three cells in an old block, loaded in a world of the region's. -/
theorem load_three {P : Program} {w : World} {b o : Nat} {x y z : Value} (hb : b < w.heap.size) (h0 : w.cell? ⟨b, o, none⟩ = some x) (h1 : w.cell? ⟨b, o + 1, none⟩ = some y) (h2 : w.cell? ⟨b, o + 2, none⟩ = some z) (n : Nat) (os : Array Obj) :
    Sem.run P (loadCellsFrom ⟨b, o, none⟩ 0 3 #[]) (grow (w.drewN n) os) = .ok #[x, y, z] (grow (w.drewN n) os) :=
  run_loadCellsFrom_list P _ _ [x, y, z] 3 rfl fun j v hv => by
    match j, hv with
    | 0, hv => cases hv; exact cell_grown (a := ⟨b, o, none⟩) hb h0 n os
    | 1, hv => cases hv; exact cell_grown (a := ⟨b, o + 1, none⟩) hb h1 n os
    | 2, hv => cases hv; exact cell_grown (a := ⟨b, o + 2, none⟩) hb h2 n os
    | j + 3, hv => simp at hv
/-- A callee that is known to grow the world, at a world of the region's. -/
theorem gr_call {P : Program} {f : FuncId} {args : Array Value} {w : World} {n : Nat} {os : Array Obj} {v : Value} (h : ∀ W, Calls P f args W fun e w' => e = .returned v ∧ Gr W w') :
    Calls P f args (grow (w.drewN n) os) fun e w'' => e = .returned v ∧ ∃ p : GrownBy, w'' = grow (w.drewN p.n) p.os := Calls.grown_of (h _)
theorem gr_same {P : Program} {f : FuncId} {args : Array Value} {v : Value} (h : ∀ W, Calls P f args W fun e w' => e = .returned v ∧ W = w') : ∀ W, Calls P f args W fun e w' => e = .returned v ∧ Gr W w' :=
  fun W => (h W).mono fun _ _ ⟨he, hw⟩ => ⟨he, by subst hw; exact Gr.refl _⟩
/-- A callee whose contract holds from a world on. -/
theorem gr_from {P : Program} {f : FuncId} {args : Array Value} {w : World} {n : Nat} {os : Array Obj} {v : Value} (h : ∀ W, Gr w W → Calls P f args W fun e w' => e = .returned v ∧ Gr W w') :
    Calls P f args (grow (w.drewN n) os) fun e w'' => e = .returned v ∧ ∃ p : GrownBy, w'' = grow (w.drewN p.n) p.os := Calls.grown_of (h _ (Gr.grown w n os))

end Go.Proofs.Ytekhkmhpeefenaa
