/-
  Sets: whether a row is one, what it has, whether two are the same: the program's and the document's, by contract.
-/
import Derived.Test.YtkghkioghkapcaaSetsK
namespace Go.Proofs.Ytkghkioghkapcaa
open Go.RowKit

theorem mem_take_succ {xs : List Int} {k : Nat} {v : Int} (h : k < xs.length) (hn : v ∉ xs.take k) (hv : ¬ xs[k] = v) : v ∉ xs.take (k + 1) := by
  rw [List.take_succ_eq_append_getElem h]
  intro hm
  rcases List.mem_append.1 hm with hm | hm
  · exact hn hm
  · exact hv (List.mem_singleton.1 hm).symm
theorem mem_at {xs : List Int} {k : Nat} {v : Int} (h : k < xs.length) (hv : xs[k] = v) : decide (v ∈ xs) = true := by
  subst hv; simp
theorem mem_not {xs : List Int} {k : Nat} {v : Int} (hn : v ∉ xs.take k) (h : xs.length ≤ k) : decide (v ∈ xs) = false := by
  rw [List.take_of_length_le h] at hn; simpa using hn

/-- A place, or -1. -/
def Found (b : Bool) (w : World) (e : Ending) (w' : World) : Prop := ∃ r : Int, e = .returned (.int .i64 r) ∧ decide (0 ≤ r) = b ∧ w = w'
theorem isS_len {s : List Int} (h : Up s) : isS s = decide (s.length ≤ 16) := by simp [isS, h]

end Go.Proofs.Ytkghkioghkapcaa
