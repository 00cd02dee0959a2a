/-
  Rows of ints: a literal row; what was lent, in the world behind it; what was given back.
-/
import Derived.Test.YtpepmjkkckgkkaaSetsK
namespace Go.Proofs.Ytpepmjkkckgkkaa
open Go.RowKit

theorem rd_rowI (w : World) (L : List Int) (t : TypeId) {n : Nat} (hn : L.length = n) : Rd (w.alloc (.cells (ci L).toArray t)) (w.heap.size + 1) (some ⟨w.heap.size, 0, none⟩) (ci L) := by
  have h := Rd.row (off := 0) (n := n) (L := ci L) (heap_alloc_new w (.cells (ci L).toArray t)) (Nat.lt_succ_self _) (by rw [length_ci]; omega)
  rwa [List.drop_zero, List.take_of_length_le (by rw [length_ci]; omega)] at h
/-- A row that was lent: the block at its place, how it reads, and that nothing else has changed. -/
structure LentI (w : World) (zs : List Int) (w1 : World) : Prop where
  below : Below w.heap.size w w1
  size : w1.heap.size = w.heap.size + 1
  rd : Rd w1 (w.heap.size + 1) (some ⟨w.heap.size, 0, none⟩) (ci zs)
  blk : w1.heap[w.heap.size]? = some (.cells (ci (zs ++ [-77])).toArray 3 (0, 0))
theorem lentI (w : World) (zs : List Int) {n : Nat} (hn : zs.length = n) : LentI w zs (w.alloc (.cells (ci (zs ++ [-77])).toArray 3)) := by
  refine ⟨(Below.refl _ _).alloc (Nat.le_refl _) _, by simp, ?_, heap_alloc_new w _⟩
  have h := (rd_rowI w (zs ++ [-77]) 3 rfl).take n
  rw [ci_append, List.take_left' (by rw [length_ci, hn])] at h
  rw [ci_append]
  exact h
end Go.Proofs.Ytpepmjkkckgkkaa
