/-
  A heap of pairs (time, id) in a list: what swaps on the way up and on the way down keep, as mathematics.
-/
import Derived.Test.YtpepmjkkckgkkaaMem
namespace Go.Proofs.Ytpepmjkkckgkkaa

abbrev Due := Int × Int
def lq (a b : Due) : Prop := a.1 < b.1 ∨ a.1 = b.1 ∧ a.2 ≤ b.2
instance (a b : Due) : Decidable (lq a b) := by unfold lq; infer_instance
theorem lq_refl (a : Due) : lq a a := by unfold lq; omega
theorem lq_trans {a b c : Due} (h : lq a b) (k : lq b c) : lq a c := by unfold lq at *; omega
theorem lq_total (a b : Due) : lq a b ∨ lq b a := by unfold lq; omega
theorem lq_of_not {a b : Due} (h : ¬ lq a b) : lq b a := by unfold lq at *; omega
theorem lq_anti {a b : Due} (h : lq a b) (k : lq b a) : a = b := by
  unfold lq at *
  exact Prod.ext (by omega) (by omega)

/-- What stands at a place. -/
def at_ (L : List Due) (k : Nat) : Due := L.getD k (0, 0)
theorem at_get {L : List Due} {k : Nat} (h : k < L.length) : at_ L k = L[k] := by simp [at_, List.getD, List.getElem?_eq_getElem h]
theorem at_set {L : List Due} {i k : Nat} {x : Due} (h : i < L.length) : at_ (L.set i x) k = if k = i then x else at_ L k := by
  unfold at_ List.getD
  rw [List.getElem?_set]
  by_cases e : k = i
  · subst e; simp [h]
  · rw [if_neg (fun h => e h.symm), if_neg e]
def sw (L : List Due) (i j : Nat) : List Due := (L.set i (at_ L j)).set j (at_ L i)
theorem length_sw (L : List Due) (i j : Nat) : (sw L i j).length = L.length := by simp [sw]
theorem at_sw {L : List Due} {i j k : Nat} (hi : i < L.length) (hj : j < L.length) : at_ (sw L i j) k = if k = j then at_ L i else if k = i then at_ L j else at_ L k := by
  unfold sw
  rw [at_set (by simpa using hj), at_set hi]
theorem count_sw {L : List Due} {i j : Nat} (hi : i < L.length) (hj : j < L.length) (b : Due) : (sw L i j).count b = L.count b := by
  by_cases hij : i = j
  · subst hij
    have : sw L i i = L := by
      unfold sw
      rw [List.set_set, at_get hi, List.set_getElem_self]
    rw [this]
  unfold sw
  rw [List.count_set (by simpa using hj), List.count_set hi, List.getElem_set_ne hij, at_get hi, at_get hj]
  by_cases h1 : L[i] == b <;> by_cases h2 : L[j] == b <;> simp [h1, h2]
  all_goals
    first
    | (have := List.count_pos_iff.2 (by have h3 : L[i] = b := by simpa using h1
                                        rw [← h3]; exact List.getElem_mem hi : b ∈ L); omega)
    | (have := List.count_pos_iff.2 (by have h3 : L[j] = b := by simpa using h2
                                        rw [← h3]; exact List.getElem_mem hj : b ∈ L); omega)
theorem sw_perm {L : List Due} {i j : Nat} (hi : i < L.length) (hj : j < L.length) : (sw L i j).Perm L := List.perm_iff_count.2 fun b => count_sw hi hj b

/-- The edge to a place from the place above it is right. -/
def Edge (L : List Due) (k : Nat) : Prop := lq (at_ L ((k - 1) / 2)) (at_ L k)
def Heap (L : List Due) (n : Nat) : Prop := ∀ k, 0 < k → k < n → Edge L k
/-- All is right, but for what stands at a place. -/
def Hole (L : List Due) (n i : Nat) : Prop :=
  (∀ k, 0 < k → k < n → k ≠ i → (k - 1) / 2 ≠ i → Edge L k) ∧ (∀ k, 0 < k → k < n → (k - 1) / 2 = i → 0 < i → lq (at_ L ((i - 1) / 2)) (at_ L k))
def DownAt (L : List Due) (n i0 i : Nat) : Prop := i0 ≤ i ∧ Hole L n i ∧ (i ≠ i0 → Edge L i)
def UpAt (L : List Due) (n j : Nat) : Prop :=
  (∀ k, 0 < k → k < n → k ≠ j → Edge L k) ∧ (∀ k, 0 < k → k < n → (k - 1) / 2 = j → 0 < j → lq (at_ L ((j - 1) / 2)) (at_ L k))

theorem down_step {L : List Due} {n i0 i j : Nat} (hn : n ≤ L.length) (h : DownAt L n i0 i) (hj : j < n) (hji : j = 2 * i + 1 ∨ j = 2 * i + 2)
    (hmin : ∀ k, 0 < k → k < n → (k - 1) / 2 = i → lq (at_ L j) (at_ L k)) (hlt : ¬ lq (at_ L i) (at_ L j)) : DownAt (sw L i j) n i0 j := by
  obtain ⟨h0, ⟨h1, h2⟩, h3⟩ := h
  have hi : i < n := by omega
  have e : ∀ k, at_ (sw L i j) k = if k = j then at_ L i else if k = i then at_ L j else at_ L k := fun k => at_sw (by omega) (by omega)
  have hlt' := lq_of_not hlt
  have hpj : (j - 1) / 2 = i := by omega
  refine ⟨by omega, ⟨fun k hk hkn hkj hpk => ?_, fun k hk hkn hpk _ => ?_⟩, fun _ => ?_⟩
  · unfold Edge
    rw [e k, e ((k - 1) / 2), if_neg hkj, if_neg hpk]
    by_cases hki : k = i
    · subst hki
      rw [if_pos rfl, if_neg (by omega)]
      exact h2 j (by omega) hj hpj hk
    · rw [if_neg hki]
      by_cases hp : (k - 1) / 2 = i
      · rw [if_pos hp]; exact hmin k hk hkn hp
      · rw [if_neg hp]; exact h1 k hk hkn hki hp
  · rw [e k, e ((j - 1) / 2), hpj, if_neg (by omega), if_pos rfl, if_neg (by omega), if_neg (by omega)]
    have := h1 k hk hkn (by omega) (by omega)
    unfold Edge at this
    rw [hpk] at this
    exact this
  · unfold Edge
    rw [hpj, e i, e j, if_pos rfl, if_neg (by omega), if_pos rfl]
    exact hlt'
theorem down_done {L : List Due} {n i0 i : Nat} (h : DownAt L n i0 i) (hc : ∀ k, 0 < k → k < n → (k - 1) / 2 = i → Edge L k) (hne : i ≠ i0) : Heap L n := by
  obtain ⟨h0, ⟨h1, h2⟩, h3⟩ := h
  intro k hk hkn
  by_cases hki : k = i
  · subst hki; exact h3 hne
  by_cases hp : (k - 1) / 2 = i
  · exact hc k hk hkn hp
  · exact h1 k hk hkn hki hp
theorem down_kept {L : List Due} {n i0 : Nat} (h : DownAt L n i0 i0) (hc : ∀ k, 0 < k → k < n → (k - 1) / 2 = i0 → Edge L k) : UpAt L n i0 := by
  obtain ⟨h0, ⟨h1, h2⟩, h3⟩ := h
  refine ⟨fun k hk hkn hki => ?_, h2⟩
  by_cases hp : (k - 1) / 2 = i0
  · exact hc k hk hkn hp
  · exact h1 k hk hkn hki hp
/-- No way down: there is no child, or the least child is not less. -/
theorem down_stop {L : List Due} {n i j : Nat} (hmin : ∀ k, 0 < k → k < n → (k - 1) / 2 = i → lq (at_ L j) (at_ L k)) (hle : lq (at_ L i) (at_ L j)) : ∀ k, 0 < k → k < n → (k - 1) / 2 = i → Edge L k := by
  intro k hk hkn hp
  unfold Edge
  rw [hp]
  exact lq_trans hle (hmin k hk hkn hp)
theorem down_end {L : List Due} {n i : Nat} (h : n ≤ 2 * i + 1) : ∀ k, 0 < k → k < n → (k - 1) / 2 = i → Edge L k := by
  intro k hk hkn hp; omega
theorem least_left {L : List Due} {n i : Nat} (h : n ≤ 2 * i + 2 ∨ lq (at_ L (2 * i + 1)) (at_ L (2 * i + 2))) : ∀ k, 0 < k → k < n → (k - 1) / 2 = i → lq (at_ L (2 * i + 1)) (at_ L k) := by
  intro k hk hkn hp
  rcases (by omega : k = 2 * i + 1 ∨ k = 2 * i + 2) with rfl | rfl
  · exact lq_refl _
  · rcases h with h | h
    · omega
    · exact h
theorem least_right {L : List Due} {n i : Nat} (h : lq (at_ L (2 * i + 2)) (at_ L (2 * i + 1))) : ∀ k, 0 < k → k < n → (k - 1) / 2 = i → lq (at_ L (2 * i + 2)) (at_ L k) := by
  intro k hk hkn hp
  rcases (by omega : k = 2 * i + 1 ∨ k = 2 * i + 2) with rfl | rfl
  · exact h
  · exact lq_refl _

theorem up_step {L : List Due} {n j : Nat} (hn : n ≤ L.length) (h : UpAt L n j) (h0 : 0 < j) (hj : j < n) (hlt : ¬ lq (at_ L ((j - 1) / 2)) (at_ L j)) : UpAt (sw L ((j - 1) / 2) j) n ((j - 1) / 2) := by
  obtain ⟨h1, h2⟩ := h
  obtain ⟨i, hi⟩ : ∃ i, (j - 1) / 2 = i := ⟨_, rfl⟩
  rw [hi] at h2 hlt ⊢
  have hij : i < j := by omega
  have e : ∀ k, at_ (sw L i j) k = if k = j then at_ L i else if k = i then at_ L j else at_ L k := fun k => at_sw (by omega) (by omega)
  have hlt' := lq_of_not hlt
  refine ⟨fun k hk hkn hki => ?_, fun k hk hkn hp hi0 => ?_⟩
  · unfold Edge
    rw [e k, e ((k - 1) / 2)]
    by_cases hkj : k = j
    · subst hkj
      rw [if_pos rfl, hi, if_neg (by omega), if_pos rfl]
      exact hlt'
    rw [if_neg hkj, if_neg hki]
    by_cases hp : (k - 1) / 2 = j
    · rw [if_pos hp]
      exact h2 k hk hkn hp h0
    rw [if_neg hp]
    by_cases hp2 : (k - 1) / 2 = i
    · rw [if_pos hp2]
      have := h1 k hk hkn hkj
      unfold Edge at this
      rw [hp2] at this
      exact lq_trans hlt' this
    · rw [if_neg hp2]
      exact h1 k hk hkn hkj
  · have hpi : lq (at_ L ((i - 1) / 2)) (at_ L i) := h1 i hi0 (by omega) (by omega)
    rw [e k, e ((i - 1) / 2), if_neg (by omega), if_neg (by omega)]
    by_cases hkj : k = j
    · rw [if_pos hkj]; exact hpi
    · rw [if_neg hkj, if_neg (by omega)]
      have := h1 k hk hkn hkj
      unfold Edge at this
      rw [hp] at this
      exact lq_trans hpi this
theorem up_done {L : List Due} {n j : Nat} (h : UpAt L n j) (hc : j = 0 ∨ lq (at_ L ((j - 1) / 2)) (at_ L j)) : Heap L n := by
  intro k hk hkn
  by_cases hkj : k = j
  · subst hkj
    rcases hc with rfl | hc
    · omega
    · exact hc
  · exact h.1 k hk hkn hkj

theorem at_append {L : List Due} {x : Due} {k : Nat} (h : k < L.length) : at_ (L ++ [x]) k = at_ L k := by
  unfold at_ List.getD
  rw [List.getElem?_append_left h]
theorem push_up {L : List Due} {x : Due} (h : Heap L L.length) : UpAt (L ++ [x]) (L.length + 1) L.length := by
  refine ⟨fun k hk hkn hki => ?_, fun k hk hkn hp _ => ?_⟩
  · unfold Edge
    rw [at_append (by omega), at_append (by omega)]
    exact h k hk (by omega)
  · omega
theorem hole_at {L L' : List Due} {n m i : Nat} (h : Heap L n) (hm : m ≤ n) (hs : ∀ k, k < m → k ≠ i → at_ L' k = at_ L k) (hi : i < m) : Hole L' m i := by
  refine ⟨fun k hk hkn hki hp => ?_, fun k hk hkn hp hi0 => ?_⟩
  · unfold Edge
    rw [hs k hkn hki, hs _ (by omega) hp]
    exact h k hk (by omega)
  · rw [hs k hkn (by omega), hs _ (by omega) (by omega)]
    have h1 : lq (at_ L ((i - 1) / 2)) (at_ L i) := h i hi0 (by omega)
    have h2 : lq (at_ L ((k - 1) / 2)) (at_ L k) := h k hk (by omega)
    rw [hp] at h2
    exact lq_trans h1 h2
theorem down_start {L : List Due} {n i : Nat} (h : Hole L n i) : DownAt L n i i := ⟨Nat.le_refl _, h, fun h => absurd rfl h⟩
theorem heap_some {L : List Due} {n : Nat} (h : Heap L n) {m : Nat} (hm : m ≤ n) : Heap L m := fun k hk hkn => h k hk (by omega)
theorem heap_same {L L' : List Due} {n : Nat} (h : Heap L n) (hs : ∀ k, k < n → at_ L' k = at_ L k) : Heap L' n := by
  intro k hk hkn
  unfold Edge
  rw [hs k hkn, hs _ (by omega)]
  exact h k hk hkn
theorem heap_take {L : List Due} {n : Nat} (h : Heap L n) (hn : n ≤ L.length) : Heap (L.take n) (L.take n).length := by
  rw [List.length_take, Nat.min_eq_left hn]
  refine heap_same h fun k hk => ?_
  unfold at_ List.getD
  rw [List.getElem?_take_of_lt hk]
theorem root_least {L : List Due} {n : Nat} (h : Heap L n) : ∀ k, k < n → lq (at_ L 0) (at_ L k) := by
  intro k
  induction k using Nat.strongRecOn with
  | _ k ih =>
    intro hk
    by_cases h0 : k = 0
    · subst h0; exact lq_refl _
    · exact lq_trans (ih ((k - 1) / 2) (by omega) (by omega)) (h k (by omega) hk)
theorem root_mem {L : List Due} (h : Heap L L.length) : ∀ x ∈ L, lq (at_ L 0) x := by
  intro x hx
  obtain ⟨k, hk, rfl⟩ := List.getElem_of_mem hx
  rw [← at_get hk]
  exact root_least h k hk
end Go.Proofs.Ytpepmjkkckgkkaa
