/-
  What is due, as mathematics: a row of (time, id) in rising order; what a clock's calls make of it.
-/
import Derived.Test.YtpepmjkkckgkkaaHeapM
namespace Go.Proofs.Ytpepmjkkckgkkaa

def Rise (S : List Due) : Prop := S.Pairwise fun a b => ¬ lq b a
def Once (S : List Due) : Prop := S.Pairwise fun a b => a.2 ≠ b.2
/-- All but an id's. -/
def offD (id : Int) (S : List Due) : List Due := S.filter fun e => decide (e.2 ≠ id)
def insD (x : Due) : List Due → List Due
  | [] => [x]
  | b :: t => if lq b x then b :: insD x t else x :: b :: t
def setD (id at_ : Int) (S : List Due) : List Due := insD (at_, id) (offD id S)
def hasD (id : Int) (S : List Due) : Bool := S.any fun e => decide (e.2 = id)
/-- How many are due. -/
def dueN (now : Int) (S : List Due) : Nat := (S.takeWhile fun e => decide (e.1 ≤ now)).length

theorem offD_no {id : Int} {S : List Due} (h : hasD id S = false) : offD id S = S := by
  unfold offD
  rw [List.filter_eq_self]
  intro e he
  unfold hasD at h
  have := List.any_eq_false.1 h e he
  simpa using this
theorem not_mem_offD {id : Int} {S : List Due} : ∀ y ∈ offD id S, y.2 ≠ id := by
  intro y hy
  have := (List.mem_filter.1 hy).2
  simpa using this
theorem length_offD_lt {id : Int} {S : List Due} : (offD id S).length < S.length ↔ hasD id S = true := by
  induction S with
  | nil => simp [offD, hasD]
  | cons b t ih =>
    unfold offD hasD at *
    by_cases h : b.2 = id
    · simp [h]
      exact Nat.lt_succ_of_le (List.length_filter_le _ _)
    · simp [h]
      try simpa using ih
theorem length_offD_le (id : Int) (S : List Due) : (offD id S).length ≤ S.length := List.length_filter_le _ _
theorem offD_take_in {id : Int} {S : List Due} {k : Nat} (h : k < S.length) (hm : ¬ S[k].2 = id) : offD id (S.take (k + 1)) = offD id (S.take k) ++ [S[k]] := by
  unfold offD
  rw [List.take_succ_eq_append_getElem h, List.filter_append]
  simp [hm]
theorem offD_take_out {id : Int} {S : List Due} {k : Nat} (h : k < S.length) (hm : S[k].2 = id) : offD id (S.take (k + 1)) = offD id (S.take k) := by
  unfold offD
  rw [List.take_succ_eq_append_getElem h, List.filter_append]
  simp [hm]
theorem length_offD_take (id : Int) (S : List Due) (k : Nat) : (offD id (S.take k)).length ≤ k := Nat.le_trans (length_offD_le _ _) (List.length_take_le _ _)

theorem insD_perm (x : Due) (S : List Due) : (insD x S).Perm (x :: S) := by
  induction S with
  | nil => exact .refl _
  | cons b t ih =>
    unfold insD
    split
    · exact (List.Perm.cons b ih).trans (List.Perm.swap x b t)
    · exact .refl _
theorem length_insD (x : Due) (S : List Due) : (insD x S).length = S.length + 1 := by rw [(insD_perm x S).length_eq]; rfl
theorem insD_rise {x : Due} {S : List Due} (h : Rise S) (hx : ∀ y ∈ S, y.2 ≠ x.2) : Rise (insD x S) := by
  induction S with
  | nil => exact List.pairwise_singleton _ _
  | cons b t ih =>
    obtain ⟨h1, h2⟩ := List.pairwise_cons.1 h
    have hb : b.2 ≠ x.2 := hx b (by simp)
    unfold insD
    split
    · rename_i hl
      refine List.pairwise_cons.2 ⟨fun y hy => ?_, ih h2 (fun y hy => hx y (by simp [hy]))⟩
      rcases List.mem_cons.1 ((insD_perm x t).mem_iff.1 hy) with rfl | hy
      · intro hc; exact hb (by rw [lq_anti hl hc])
      · exact h1 y hy
    · rename_i hl
      refine List.pairwise_cons.2 ⟨fun y hy => ?_, h⟩
      rcases List.mem_cons.1 hy with rfl | hy
      · exact hl
      · intro hc; exact h1 y hy (lq_trans hc (lq_of_not hl))
theorem once_perm {S T : List Due} (h : Once S) (p : S.Perm T) : Once T := p.pairwise h (fun h e => h e.symm)
theorem insD_once {x : Due} {S : List Due} (h : Once S) (hx : ∀ y ∈ S, y.2 ≠ x.2) : Once (insD x S) :=
  once_perm (S := x :: S) (List.pairwise_cons.2 ⟨fun y hy e => hx y hy e.symm, h⟩) (insD_perm x S).symm
theorem offD_rise {id : Int} {S : List Due} (h : Rise S) : Rise (offD id S) := List.Pairwise.filter _ h
theorem offD_once {id : Int} {S : List Due} (h : Once S) : Once (offD id S) := List.Pairwise.filter _ h
theorem setD_rise {id a : Int} {S : List Due} (h : Rise S) : Rise (setD id a S) := insD_rise (offD_rise h) (fun y hy => not_mem_offD y hy)
theorem setD_once {id a : Int} {S : List Due} (h : Once S) : Once (setD id a S) := insD_once (offD_once h) (fun y hy => not_mem_offD y hy)
theorem length_setD_le (id a : Int) (S : List Due) : (setD id a S).length ≤ S.length + 1 := by
  unfold setD
  rw [length_insD]
  have := length_offD_le id S
  omega

/-- The document's way of laying one in, half done: is it in, what has been laid, how far. -/
def LaidIn (x : Due) (S acc : List Due) (k : Nat) (b : Bool) : Prop :=
  (b = false ∧ acc = S.take k ∧ insD x S = S.take k ++ insD x (S.drop k)) ∨ (b = true ∧ acc ++ S.drop k = insD x S ∧ acc.length = k + 1)
theorem laidIn_start (x : Due) (S : List Due) : LaidIn x S [] 0 false := .inl ⟨rfl, by simp, by simp⟩
theorem laidIn_pass {x : Due} {S acc : List Due} {k : Nat} (h : LaidIn x S acc k false) (hk : k < S.length) (hl : lq S[k] x) : LaidIn x S (acc ++ [S[k]]) (k + 1) false := by
  rcases h with ⟨_, h1, h2⟩ | ⟨h, _⟩
  · refine .inl ⟨rfl, by rw [h1, List.take_succ_eq_append_getElem hk], ?_⟩
    rw [h2, List.drop_eq_getElem_cons hk]
    conv => lhs; unfold insD
    rw [if_pos hl, List.take_succ_eq_append_getElem hk, List.append_assoc]
    rfl
  · cases h
theorem laidIn_here {x : Due} {S acc : List Due} {k : Nat} (h : LaidIn x S acc k false) (hk : k < S.length) (hl : ¬ lq S[k] x) : LaidIn x S (acc ++ [x] ++ [S[k]]) (k + 1) true := by
  rcases h with ⟨_, h1, h2⟩ | ⟨h, _⟩
  · have hlen : acc.length = k := by rw [h1, List.length_take]; omega
    refine .inr ⟨rfl, ?_, by simp [hlen]⟩
    rw [h2, List.drop_eq_getElem_cons hk]
    conv => rhs; unfold insD
    rw [if_neg hl, h1]
    simp
  · cases h
theorem laidIn_more {x : Due} {S acc : List Due} {k : Nat} (h : LaidIn x S acc k true) (hk : k < S.length) : LaidIn x S (acc ++ [S[k]]) (k + 1) true := by
  rcases h with ⟨h, _⟩ | ⟨_, h1, h2⟩
  · cases h
  · refine .inr ⟨rfl, ?_, by simp [h2]⟩
    rw [← h1, List.drop_eq_getElem_cons hk]
    simp
theorem laidIn_end {x : Due} {S acc : List Due} (h : LaidIn x S acc S.length true) : acc = insD x S := by
  rcases h with ⟨h, _⟩ | ⟨_, h1, _⟩
  · cases h
  · simpa using h1
theorem laidIn_last {x : Due} {S acc : List Due} (h : LaidIn x S acc S.length false) : acc ++ [x] = insD x S := by
  rcases h with ⟨_, h1, h2⟩ | ⟨h, _⟩
  · rw [h2, h1]; simp [insD]
  · cases h
theorem laidIn_len {x : Due} {S acc : List Due} {k : Nat} {b : Bool} (h : LaidIn x S acc k b) : acc.length ≤ k + 1 := by
  rcases h with ⟨_, h1, _⟩ | ⟨_, _, h2⟩
  · rw [h1]; exact Nat.le_succ_of_le (List.length_take_le _ _)
  · omega

theorem dueN_le (now : Int) (S : List Due) : dueN now S ≤ S.length := (List.takeWhile_sublist _).length_le
/-- How far a run of those that are due goes. -/
theorem dueN_of {now : Int} : ∀ {S : List Due} {k : Nat}, (∀ i (h : i < S.length), i < k → S[i].1 ≤ now) → k ≤ S.length → (∀ h : k < S.length, ¬ S[k].1 ≤ now) → dueN now S = k
  | [], k, _, hk, _ => by simp at hk; subst hk; rfl
  | b :: t, 0, _, _, h2 => by
    have := h2 (by simp)
    unfold dueN
    rw [List.takeWhile_cons_of_neg (by simpa using this)]
    rfl
  | b :: t, k + 1, h1, hk, h2 => by
    have hb : b.1 ≤ now := h1 0 (by simp) (by omega)
    have ih := dueN_of (now := now) (S := t) (k := k) (fun i h hi => by have := h1 (i + 1) (by simpa using h) (by omega); simpa using this) (by simpa using hk) (fun h => by have := h2 (by simpa using h); simpa using this)
    unfold dueN at *
    rw [List.takeWhile_cons_of_pos (by simpa using hb), List.length_cons, ih]
theorem dueN_upto {now : Int} : ∀ {S : List Due} {k : Nat}, k < dueN now S → ∀ h : k < S.length, S[k].1 ≤ now
  | [], k, _, h => by simp at h
  | b :: t, k, hk, h => by
    by_cases hb : b.1 ≤ now
    · cases k with
      | zero => exact hb
      | succ k =>
        unfold dueN at hk
        rw [List.takeWhile_cons_of_pos (by simpa using hb), List.length_cons] at hk
        have := dueN_upto (now := now) (S := t) (k := k) (by unfold dueN; omega) (by simpa using h)
        simpa using this
    · unfold dueN at hk
      rw [List.takeWhile_cons_of_neg (by simpa using hb)] at hk
      simp at hk

/-- In rising order what comes first is the least; so a heap's first is the first of the row. -/
theorem head_heap {L S : List Due} (hr : Rise S) (hp : L.Perm S) (hh : Heap L L.length) (hS : S ≠ []) : S = at_ L 0 :: S.tail := by
  cases S with
  | nil => exact absurd rfl hS
  | cons s t =>
    have hl : 0 < L.length := by rw [hp.length_eq]; simp
    have h1 : lq (at_ L 0) s := root_mem hh s (hp.mem_iff.2 (by simp))
    have h2 : at_ L 0 ∈ s :: t := hp.mem_iff.1 (by rw [at_get hl]; exact List.getElem_mem hl)
    rcases List.mem_cons.1 h2 with h2 | h2
    · rw [h2]; rfl
    · exact absurd h1 ((List.pairwise_cons.1 hr).1 _ h2)
end Go.Proofs.Ytpepmjkkckgkkaa
