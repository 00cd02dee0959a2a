/-
  The program's 'put' of each thing, by contract.
-/
import Derived.Test.YtpepmjkkckgkkaaWireC
import Derived.Deep.MidRow
namespace Go.Proofs.Ytpepmjkkckgkkaa
open Go.RowKit
set_option linter.unusedVariables false

/-- A box reads as its cells. -/
theorem box_range {w : World} {b : Nat} {cs : List Value} {t : TypeId} (h : w.heap[b]? = some (.cells cs.toArray t (0, 0))) : w.rangeAt b 0 cs :=
  fun j v hv => by rw [Nat.zero_add, cell_of_row w b j cs.toArray t (0, 0) h]; simpa using hv

/-- What the program's Put answers: the bytes, in a row of the call's own; or the first fault. -/
def PutPost (w : World) (ts : List Tok) (e : Ending) (w' : World) : Prop :=
  Below w.heap.size w w' ∧ ((firstF ts = 0 ∧ ∃ v, e = .returned (.tuple #[v, .int .i64 0]) ∧ w'.ownsRow w.heap.size 5 1 v (bytesL ts).length (cb (bytesL ts))) ∨
    (firstF ts ≠ 0 ∧ e = .returned (.tuple #[.slice none 0 0, .int .i64 (firstF ts)])))

theorem own_base {w : World} {b b' : Nat} {e : TypeId} {sz : Nat} {v : Value} {n : Nat} {cs : List Value} (h : w.ownsRow b e sz v n cs) (hb : b' ≤ b) : w.ownsRow b' e sz v n cs := by
  refine ⟨h.1, ?_⟩
  rcases h.2 with h | ⟨g, cap, cur, rfl, a1, a2⟩
  · exact .inl h
  · exact .inr ⟨g, cap, cur, rfl, Nat.le_trans hb a1, a2⟩
theorem PutPost.boxed {w w' : World} {o : Obj} {ts : List Tok} {e : Ending} (h : PutPost (w.alloc o) ts e w') : PutPost w ts e w' := by
  obtain ⟨hb, h⟩ := h
  have hz : w.heap.size ≤ (w.alloc o).heap.size := by simp
  refine ⟨((Below.refl _ _).alloc (Nat.le_refl _) o).trans (hb.mono hz), ?_⟩
  rcases h with ⟨F, v, he, ho⟩ | h
  · exact .inl ⟨F, v, he, own_base ho hz⟩
  · exact .inr h

/-- The blocks that stay while a thing is laid: all but the writer's. -/
def But (n p : Nat) (k : Nat) : Prop := k < n ∧ k ≠ p

/-- Five new blocks. -/
abbrev five (w : World) (o0 o1 o2 o3 o4 : Obj) : World := ((((w.alloc o0).alloc o1).alloc o2).alloc o3).alloc o4
theorem five_size (w : World) (o0 o1 o2 o3 o4 : Obj) : (five w o0 o1 o2 o3 o4).heap.size = w.heap.size + 5 := by simp
theorem five_at (w : World) (o0 o1 o2 o3 o4 : Obj) : (five w o0 o1 o2 o3 o4).heap[w.heap.size]? = some o0 ∧ (five w o0 o1 o2 o3 o4).heap[w.heap.size + 1]? = some o1 ∧ (five w o0 o1 o2 o3 o4).heap[w.heap.size + 1 + 1]? = some o2 ∧
    (five w o0 o1 o2 o3 o4).heap[w.heap.size + 1 + 1 + 1]? = some o3 ∧ (five w o0 o1 o2 o3 o4).heap[w.heap.size + 1 + 1 + 1 + 1]? = some o4 := by
  unfold five World.alloc
  simp only [Array.getElem?_push, Array.size_push]
  refine ⟨?_, ?_, ?_, ?_, ?_⟩
  · rw [if_neg (by omega), if_neg (by omega), if_neg (by omega), if_neg (by omega), if_pos trivial]
  · rw [if_neg (by omega), if_neg (by omega), if_neg (by omega), if_pos trivial]
  · rw [if_neg (by omega), if_neg (by omega), if_pos trivial]
  · rw [if_neg (by omega), if_pos trivial]
  · rw [if_pos trivial]
theorem five_keeps (w : World) (o0 o1 o2 o3 o4 : Obj) (S : Nat → Prop) : Keeps S w (five w o0 o1 o2 o3 o4) := ((((Keeps.refl.alloc _).alloc _).alloc _).alloc _).alloc _
theorem put_below {w w' : World} {o0 o1 o2 o3 o4 : Obj} {v : Value} (h : Keeps (But (w.heap.size + 5) (w.heap.size + 1 + 1)) (five w o0 o1 o2 o3 o4) w') : Below w.heap.size w (w'.setCell ⟨w.heap.size + 1 + 1 + 1 + 1, 0, none⟩ v) :=
  ((five_keeps w o0 o1 o2 o3 o4 (· < w.heap.size)).trans ((h.mono fun k hk => ⟨by omega, by omega⟩).setCell (p := ⟨w.heap.size + 1 + 1 + 1 + 1, 0, none⟩) (by simp; omega) v)).below (Nat.le_refl _) fun _ h => h
/-- Behind 'caught' in 'put'. -/
def PutMid (w : World) (ts : List Tok) (e : Ending) (w' : World) : Prop :=
  ∃ c, e = .returned (.int .i64 c) ∧ c = firstF ts ∧ Below w.heap.size w w' ∧ w'.cell? ⟨w.heap.size + 1 + 1 + 1, 0, none⟩ = some (.pointer (some ⟨w.heap.size + 1 + 1, 0, none⟩)) ∧
    (c = 0 → ∃ v, w'.cell? ⟨w.heap.size + 1 + 1, 0, none⟩ = some v ∧ w'.ownsRow w.heap.size 5 1 v (bytesL ts).length (cb (bytesL ts)))
end Go.Proofs.Ytpepmjkkckgkkaa
