/-
  From a law's walk to its statement: a slice of slices of bytes that came in.
-/
import Derived.Test.YtckapnaiehkieaaDoorFrame
import Derived.Test.YtckapnaiehkieaaDoorSlices
import Derived.Deep.Slices
namespace Go.Proofs.YtckapnaiehkieaaDoor
open Go.ChangeShapes Go.WideShapes Go.ChangeAt Go.RowKit

theorem rows_of {w : World} {S : Nat → Prop} {V : Nat → Value} {B : Nat → List UInt8} : ∀ n, (∀ i, i < n → ∃ a cap, V i = .slice a (B i).length cap ∧ RdS w S a (cb (B i))) → Rows w S ((List.range n).map V) ((List.range n).map B)
  | 0, _ => trivial
  | n + 1, h => by
    rw [List.range_succ, List.map_append, List.map_append]
    refine (rows_of n fun i hi => h i (by omega)).append ?_
    obtain ⟨a, cap, hv, hr⟩ := h n (by omega)
    simp only [List.map_cons, List.map_nil]
    rw [hv]
    exact Rows.one hr

theorem open_cell {H : Type} {enc : TypeId × Value → H} {W : World} {spare : Nat → Bool} {held : Bool} {fuel : Nat} {v : Value} {x : DataW H × List MemPlace}
    (h : DataW.trod enc Tryd.prog W 0 spare held fuel 22 [v] = some x) : ∃ (bs : List UInt8) (a : Option Addr) (cap : Nat), v = .slice a bs.length cap ∧ Rd W W.heap.size a (cb bs) := by
  have hC : Tryd.prog.cellsOf 5 = 1 := by kernel_rfl
  rcases open_ints Tryd.underlying22 Tryd.underlying5 hC h with ⟨hcs, _⟩ | ⟨a, l, c, zs, hcs, _⟩
  · simp only [List.cons.injEq, and_true] at hcs
    exact ⟨[], none, 0, hcs, Rd.nil⟩
  · simp only [List.cons.injEq, and_true] at hcs
    subst hcs
    have h' : DataW.Trod enc Tryd.prog W 0 spare held 22 (.slice (some a) l c) x.1 x.2 := ⟨fuel, by simpa [Value.cells] using h⟩
    obtain ⟨bs, hl, hr, _⟩ := open_bytes Tryd.underlying22 Tryd.underlying5 hC h'
    exact ⟨bs, some a, c, by rw [hl], hr⟩

theorem open_rows {H : Type} {enc : TypeId × Value → H} {W : World} {spare : Nat → Bool} {held : Bool} {a : Option Addr} {len cap : Nat} {d : DataW H} {p : List MemPlace}
    (h : DataW.Trod enc Tryd.prog W 0 spare held 34 (.slice a len cap) d p) :
    ∃ (xs : List Value) (bss : List (List UInt8)), bss.length = len ∧ Rd W W.heap.size a xs ∧ Rows W (· < W.heap.size) xs bss ∧ len ≤ cap ∧ cap ≤ maxLen := by
  obtain ⟨fuel, hf⟩ := h
  have hC : Tryd.prog.cellsOf 22 = 1 := by kernel_rfl
  rcases Go.Deep.open_slice1 Tryd.underlying34 hC hf with ⟨hcs, _⟩ | ⟨x, l, c, m, n, V, D, Pl, hcs, _, hl, hm, hmm, _, hV⟩
  · simp [Value.cells] at hcs
    obtain ⟨rfl, rfl, rfl⟩ := hcs
    exact ⟨[], [], rfl, Rd.nil, trivial, Nat.le_refl _, Nat.zero_le _⟩
  · simp [Value.cells] at hcs
    obtain ⟨rfl, rfl, rfl⟩ := hcs
    have hlm : len ≤ m := by rw [hmm]; split <;> omega
    have hex : ∀ i, i < len → ∃ bs : List UInt8, ∃ a cap, V i = .slice a bs.length cap ∧ Rd W W.heap.size a (cb bs) := fun i hi => open_cell (hV i (by omega)).2
    obtain ⟨B, hB⟩ := Go.Deep.choose_lt (α := List UInt8) (p := fun i bs => ∃ a cap, V i = .slice a bs.length cap ∧ Rd W W.heap.size a (cb bs)) hex
    refine ⟨(List.range len).map V, (List.range len).map B, by simp, ?_, rows_of len (fun i hi => hB i hi), hl, hm⟩
    have := rd_of_cells (w := W) (x := x) (xs := (List.range len).map V) (len := len) (by simp) (fun i hi => by
      simp at hi
      rw [(hV i (by omega)).1]
      simp [hi])
    rwa [List.take_of_length_le (by simp)] at this
end Go.Proofs.YtckapnaiehkieaaDoor
