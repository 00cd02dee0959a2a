/-
  The cell of a block of one cell that was just made.
-/
import Derived.Test.YtpepmjkkckgkkaaMem
namespace Go.Proofs.Ytpepmjkkckgkkaa
open Go.RowKit
theorem cell_one (w : World) (v : Value) (t : TypeId) : ∀ j u, [v][j]? = some u → (w.alloc (.cells #[v] t)).cell? ((⟨w.heap.size, 0, none⟩ : Addr).add j) = some u := by
  intro j u h
  obtain ⟨hj, rfl⟩ := List.getElem?_eq_some_iff.1 h
  simp at hj
  subst hj
  simp [Addr.add, cell_of_row _ _ _ _ _ _ (heap_alloc_new w (.cells #[v] t))]
end Go.Proofs.Ytpepmjkkckgkkaa
