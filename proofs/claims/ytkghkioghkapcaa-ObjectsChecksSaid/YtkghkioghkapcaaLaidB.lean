/-
  The document's way of laying one into a list, half done.
-/
import Derived.Test.YtkghkioghkapcaaObjT
namespace Go.Proofs.Ytkghkioghkapcaa
/-- The document's way of laying one in, half done. -/
def LaidB {α : Type} (lt : α → α → Bool) (x : α) (l acc : List α) (k : Nat) (b : Bool) : Prop :=
  (b = false ∧ acc = l.take k ∧ insBy lt x l = l.take k ++ insBy lt x (l.drop k)) ∨ (b = true ∧ acc ++ l.drop k = insBy lt x l ∧ acc.length = k + 1)
section
variable {α : Type} {lt : α → α → Bool} {x : α} {l acc : List α} {k : Nat}
theorem laidB_start : LaidB lt x l [] 0 false := .inl ⟨rfl, by simp, by simp⟩
theorem laidB_pass (h : LaidB lt x l acc k false) (hk : k < l.length) (hl : lt x l[k] = false) : LaidB lt x l (acc ++ [l[k]]) (k + 1) false := by
  rcases h with ⟨_, h1, h2⟩ | ⟨h, _⟩
  · refine .inl ⟨rfl, by rw [h1, List.take_succ_eq_append_getElem hk], ?_⟩
    rw [h2, List.drop_eq_getElem_cons hk]
    conv => lhs; unfold insBy
    rw [if_neg (by simp [hl]), List.take_succ_eq_append_getElem hk, List.append_assoc]
    rfl
  · cases h
theorem laidB_here (h : LaidB lt x l acc k false) (hk : k < l.length) (hl : lt x l[k] = true) : LaidB lt x l (acc ++ [x] ++ [l[k]]) (k + 1) true := by
  rcases h with ⟨_, h1, h2⟩ | ⟨h, _⟩
  · have hlen : acc.length = k := by rw [h1, List.length_take]; omega
    refine .inr ⟨rfl, ?_, by simp [hlen]⟩
    rw [h2, List.drop_eq_getElem_cons hk]
    conv => rhs; unfold insBy
    rw [if_pos hl, h1]
    simp
  · cases h
theorem laidB_more (h : LaidB lt x l acc k true) (hk : k < l.length) : LaidB lt x l (acc ++ [l[k]]) (k + 1) true := by
  rcases h with ⟨h, _⟩ | ⟨_, h1, h2⟩
  · cases h
  · refine .inr ⟨rfl, ?_, by simp [h2]⟩
    rw [← h1, List.drop_eq_getElem_cons hk]
    simp
theorem laidB_end (h : LaidB lt x l acc l.length true) : acc = insBy lt x l := by
  rcases h with ⟨h, _⟩ | ⟨_, h1, _⟩
  · cases h
  · simpa using h1
theorem laidB_last (h : LaidB lt x l acc l.length false) : acc ++ [x] = insBy lt x l := by
  rcases h with ⟨_, h1, h2⟩ | ⟨h, _⟩
  · rw [h2, h1]; simp [insBy]
  · cases h
theorem laidB_len {b : Bool} (h : LaidB lt x l acc k b) : acc.length ≤ k + 1 := by
  rcases h with ⟨_, h1, _⟩ | ⟨_, _, h2⟩
  · rw [h1]; exact Nat.le_succ_of_le (List.length_take_le _ _)
  · omega
end
end Go.Proofs.Ytkghkioghkapcaa
