/-
  Times, each under its place, as a clock holds them: mathematics.
-/
import Derived.Test.YtpepmjkkckgkkaaAlarmM
namespace Go.Proofs.Ytpepmjkkckgkkaa

/-- The clock's row when the first k times have been set, each under its place. -/
def laidT (T : List Int) : Nat → List Due
  | 0 => []
  | k + 1 => setD (k : Int) (T.getD k 0) (laidT T k)
theorem laidT_ids (T : List Int) : ∀ k, ∀ e ∈ laidT T k, ∃ j : Nat, j < k ∧ e = (T.getD j 0, (j : Int))
  | 0, e, h => by simp [laidT] at h
  | k + 1, e, h => by
    unfold laidT setD at h
    rcases List.mem_cons.1 ((insD_perm _ _).mem_iff.1 h) with rfl | h
    · exact ⟨k, Nat.lt_succ_self _, rfl⟩
    · obtain ⟨j, hj, he⟩ := laidT_ids T k e (List.mem_filter.1 h).1
      exact ⟨j, by omega, he⟩
theorem laidT_new (T : List Int) (k : Nat) : hasD (k : Int) (laidT T k) = false := by
  unfold hasD
  rw [List.any_eq_false]
  intro e he
  obtain ⟨j, hj, rfl⟩ := laidT_ids T k e he
  simp
  omega
theorem laidT_perm (T : List Int) (k : Nat) : (laidT T (k + 1)).Perm ((T.getD k 0, (k : Int)) :: laidT T k) := by
  conv => lhs; unfold laidT setD
  rw [offD_no (laidT_new T k)]
  exact insD_perm _ _
theorem length_laidT (T : List Int) : ∀ k, (laidT T k).length = k
  | 0 => rfl
  | k + 1 => by rw [(laidT_perm T k).length_eq, List.length_cons, length_laidT T k]
/-- How many of the first k are due. -/
def earlyT (now : Int) (T : List Int) : Nat → Nat
  | 0 => 0
  | k + 1 => earlyT now T k + (if T.getD k 0 ≤ now then 1 else 0)
theorem earlyT_le (now : Int) (T : List Int) : ∀ k, earlyT now T k ≤ k
  | 0 => Nat.le_refl _
  | k + 1 => by have := earlyT_le now T k; unfold earlyT; split <;> omega
theorem filter_laidT (now : Int) (T : List Int) : ∀ k, ((laidT T k).filter fun e => decide (e.1 ≤ now)).length = earlyT now T k
  | 0 => rfl
  | k + 1 => by
    rw [((laidT_perm T k).filter _).length_eq, List.filter_cons]
    have ih := filter_laidT now T k
    by_cases h : T.getD k 0 ≤ now
    · rw [if_pos (by simpa using h), List.length_cons, ih]
      conv => rhs; unfold earlyT
      rw [if_pos h]
    · rw [if_neg (by simpa using h), ih]
      conv => rhs; unfold earlyT
      rw [if_neg h, Nat.add_zero]
theorem lq_time {a b : Due} (h : lq a b) : a.1 ≤ b.1 := by unfold lq at h; omega
/-- In rising order, those that are due are a run. -/
theorem takeWhile_filter {now : Int} : ∀ {S : List Due}, Rise S → (S.takeWhile fun e => decide (e.1 ≤ now)) = S.filter fun e => decide (e.1 ≤ now)
  | [], _ => rfl
  | b :: t, h => by
    obtain ⟨h1, h2⟩ := List.pairwise_cons.1 h
    by_cases hb : b.1 ≤ now
    · rw [List.takeWhile_cons_of_pos (by simpa using hb), List.filter_cons, if_pos (by simpa using hb), takeWhile_filter h2]
    · rw [List.takeWhile_cons_of_neg (by simpa using hb), List.filter_cons, if_neg (by simpa using hb)]
      symm
      rw [List.filter_eq_nil_iff]
      intro y hy
      have := lq_time (lq_of_not (h1 y hy))
      simp
      omega
theorem dueN_laidT {now : Int} {T : List Int} {k : Nat} (h : Rise (laidT T k)) : dueN now (laidT T k) = earlyT now T k := by
  unfold dueN
  rw [takeWhile_filter h, filter_laidT]
/-- When those that are due are gone, none is. -/
theorem dueN_rest {now : Int} : ∀ {S : List Due}, dueN now (S.drop (dueN now S)) = 0
  | [] => rfl
  | b :: t => by
    by_cases hb : b.1 ≤ now
    · have e : dueN now (b :: t) = dueN now t + 1 := by unfold dueN; rw [List.takeWhile_cons_of_pos (by simpa using hb)]; rfl
      rw [e, List.drop_succ_cons]
      exact dueN_rest
    · have e : dueN now (b :: t) = 0 := by unfold dueN; rw [List.takeWhile_cons_of_neg (by simpa using hb)]; rfl
      rw [e, List.drop_zero, e]
/-- What one is told when those that are due are asked for. -/
theorem told_at {now : Int} {T : List Int} {n i : Nat} (hi : i < dueN now (laidT T n)) (hl : i < (laidT T n).length) : ∃ j : Nat, j < n ∧ (laidT T n)[i] = (T.getD j 0, (j : Int)) ∧ T.getD j 0 ≤ now := by
  obtain ⟨j, hj, he⟩ := laidT_ids T n _ (List.getElem_mem hl)
  refine ⟨j, hj, he, ?_⟩
  have := dueN_upto hi hl
  rw [he] at this
  exact this
theorem told_order {S : List Due} (h : Rise S) {i : Nat} (h0 : i + 1 < S.length) : ¬ lq S[i + 1] S[i] := List.pairwise_iff_getElem.1 h i (i + 1) (by omega) h0 (Nat.lt_succ_self _)
end Go.Proofs.Ytpepmjkkckgkkaa
