/-
  Layer 1's statements, walked.
-/
import Derived.Test.YtckapnaiehkieaaDoorLaw01a
import Derived.Test.YtckapnaiehkieaaDoorKeep
namespace Go.Proofs.YtckapnaiehkieaaDoor
open Go.RowKit

theorem str_cat (xs ys : List UInt8) : (⟨xs.toArray⟩ ++ ⟨ys.toArray⟩ : ByteArray) = ⟨(xs ++ ys).toArray⟩ := by
  apply ByteArray.ext
  simp [ByteArray.data_append]
theorem str_cat_same (xs ys : List UInt8) : (xs ++ ys == (⟨xs.toArray⟩ ++ ⟨ys.toArray⟩ : ByteArray).toList) = true := by
  rw [str_cat]
  simp [go_sem]

/-- What was lent reads as its bytes. -/
theorem lent_rd (w : World) (bs : List UInt8) {n : Nat} (hn : bs.length = n) :
    Rd (w.alloc (.cells (cb (bs ++ [165, 90])).toArray 5)) (w.heap.size + 1) (some ⟨w.heap.size, 0, none⟩) (cb bs) := by
  have h := (Rd.new w (bs ++ [165, 90]) 5).take n
  rw [cb_append, List.take_left' (by rw [length_cb, hn])] at h
  rw [cb_append]
  exact h

/-- The world in which what was lent has been given back, behind a call that made one block of bytes: what is still known of it. -/
structure Gave (w w3 : World) (a : Option Addr) (bs out : List UInt8) : Prop where
  below : Below w.heap.size w w3
  size : w3.heap.size = w.heap.size + 2
  old : Rd w3 w3.heap.size a (cb bs)
  new : Rd w3 w3.heap.size (some ⟨w.heap.size + 1, 0, none⟩) (cb out)

theorem gave (w : World) (a : Option Addr) (bs out : List UInt8) (hr : Rd w w.heap.size a (cb bs)) (A Y : Array Value) :
    Gave w (((w.alloc (.cells A 5)).alloc (.cells (cb out).toArray 5)).setRow w.heap.size Y) a bs out := by
  have hb : Below w.heap.size w (((w.alloc (.cells A 5)).alloc (.cells (cb out).toArray 5)).setRow w.heap.size Y) :=
    below_setRow (((Below.refl _ _).alloc (Nat.le_refl _) _).alloc (by simp) _) (Nat.le_refl _) _
  have hz : (((w.alloc (.cells A 5)).alloc (.cells (cb out).toArray 5)).setRow w.heap.size Y).heap.size = w.heap.size + 2 := by simp
  refine ⟨hb, hz, (hr.below hb (Nat.le_refl _)).more (by rw [hz]; omega), ?_⟩
  have h1 : (((w.alloc (.cells A 5)).alloc (.cells (cb out).toArray 5)).setRow w.heap.size Y).heap[w.heap.size + 1]? = some (.cells (cb out).toArray 5 (0, 0)) := by
    rw [setRow_other _ _ _ _ (by omega)]
    exact heap_alloc2_new w _ _
  have h := Rd.row (off := 0) (n := (cb out).length) h1 (B := w.heap.size + 2) (by omega) (by omega)
  rw [List.drop_zero, List.take_length] at h
  rw [hz]; exact h

end Go.Proofs.YtckapnaiehkieaaDoor
