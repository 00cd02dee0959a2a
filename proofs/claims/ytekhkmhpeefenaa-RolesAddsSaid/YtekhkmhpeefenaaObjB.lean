/-
  The document's answer for layer 7, by contract: Table, tables, one, Columns.
-/
import Derived.Test.YtekhkmhpeefenaaObjA
import Derived.Deep.RegionHeld3
namespace Go.Proofs.Ytekhkmhpeefenaa
open Go.RowKit

theorem cell_on {w w' : World} (h : Below w.heap.size w w') {p : Addr} {v : Value} (hc : w.cell? p = some v) : w'.cell? p = some v := (h.cell (World.block_lt_of_cell? w _ hc)).trans hc
theorem below_on {B : Nat} {w w' w'' : World} (h : Below B w w') (hB : B ≤ w.heap.size) (h' : Below w'.heap.size w' w'') : Below B w w'' := h.trans (h'.mono (Nat.le_trans hB h.size))
theorem tab_cells {w : World} {S : Nat → Prop} {x : List Value} {t : Tab} (h : tabP w S x t) : x[0]? = some (.string t.schema) ∧ x[1]? = some (.string t.name) ∧ x[2]? = some (.string t.owner) := by
  obtain ⟨vc, vr, rfl, _⟩ := h
  exact ⟨rfl, rfl, rfl⟩

theorem tabN_in {l : List Tab} {s : ByteArray} {k : Nat} (h : k < l.length) (hm : eqT l[k].schema s = true) : tabN (l.take (k + 1)) s = tabN (l.take k) s + 1 := by
  unfold tabN
  rw [List.take_succ_eq_append_getElem h, List.filter_append, List.length_append]
  simp [hm]
theorem tabN_out {l : List Tab} {s : ByteArray} {k : Nat} (h : k < l.length) (hm : eqT l[k].schema s = false) : tabN (l.take (k + 1)) s = tabN (l.take k) s := by
  unfold tabN
  rw [List.take_succ_eq_append_getElem h, List.filter_append, List.length_append]
  simp [hm]

end Go.Proofs.Ytekhkmhpeefenaa
