/-
  Majorities as mathematics: how many are enough; who has voted; what a majority has.
-/
import Derived.Test.YtdoieefkpafgcaaSetsM
namespace Go.Proofs.Ytdoieefkpafgcaa

/-- The least number that is more than half. -/
def majP (n : Int) : Int := if n < 1 then 0 else n / 2 + 1
theorem majP_no {n : Int} (h : n < 1) : majP n = 0 := if_pos h
theorem majP_yes {n : Int} (h : ¬ n < 1) : majP n = n / 2 + 1 := if_neg h
/-- How many of the voters' numbers are in yes. -/
def cnt (voters yes : List Int) : Nat := (voters.filter fun x => decide (x ∈ yes)).length
theorem cnt_le (voters yes : List Int) : cnt voters yes ≤ voters.length := List.length_filter_le _ _
theorem cnt_take_in {voters yes : List Int} {k : Nat} (h : k < voters.length) (hm : decide (voters[k] ∈ yes) = true) : cnt (voters.take (k + 1)) yes = cnt (voters.take k) yes + 1 := by
  unfold cnt
  rw [List.take_succ_eq_append_getElem h, List.filter_append, List.length_append]
  simp only [decide_eq_true_eq] at hm
  simp [hm]
theorem cnt_take_out {voters yes : List Int} {k : Nat} (h : k < voters.length) (hm : decide (voters[k] ∈ yes) = false) : cnt (voters.take (k + 1)) yes = cnt (voters.take k) yes := by
  unfold cnt
  rw [List.take_succ_eq_append_getElem h, List.filter_append, List.length_append]
  simp only [decide_eq_false_iff_not] at hm
  simp [hm]
theorem cnt_take_le {voters yes : List Int} {k : Nat} : cnt (voters.take k) yes ≤ k := Nat.le_trans (cnt_le _ _) (List.length_take_le _ _)
/-- Are yes enough of the voters? -/
def reachedP (voters yes : List Int) : Bool := isS voters && decide (voters.length < 2 * cnt voters yes)
theorem reachedP_iff {v y : List Int} : reachedP v y = true ↔ isS v = true ∧ v.length < 2 * cnt v y := by simp [reachedP]
theorem reachedP_no {v y : List Int} (h : isS v = false) : reachedP v y = false := by simp [reachedP, h]
theorem reachedP_empty {v y : List Int} (h : v.length = 0) : reachedP v y = false := by
  have := List.eq_nil_of_length_eq_zero h
  subst this
  simp [reachedP, cnt]
theorem reachedP_of {v y : List Int} (h : isS v = true) : reachedP v y = decide (v.length < 2 * cnt v y) := by simp [reachedP, h]
/-- Two filters of a row that are more than it together have one in common. -/
theorem filter_meet (p q : Int → Bool) : ∀ (l : List Int), l.length < (l.filter p).length + (l.filter q).length → ∃ x ∈ l, p x = true ∧ q x = true
  | [], h => by simp at h
  | x :: l, h => by
    by_cases hp : p x = true
    · by_cases hq : q x = true
      · exact ⟨x, by simp, hp, hq⟩
      · have : l.length < (l.filter p).length + (l.filter q).length := by
          simp only [List.filter_cons, hp, hq, if_true, List.length_cons, Bool.false_eq_true, if_false] at h; omega
        obtain ⟨y, hy, h1, h2⟩ := filter_meet p q l this
        exact ⟨y, by simp [hy], h1, h2⟩
    · have : l.length < (l.filter p).length + (l.filter q).length := by
        by_cases hq : q x = true
        · simp only [List.filter_cons, hp, hq, if_true, List.length_cons, Bool.false_eq_true, if_false] at h; omega
        · simp only [List.filter_cons, hp, hq, List.length_cons, Bool.false_eq_true, if_false] at h; omega
      obtain ⟨y, hy, h1, h2⟩ := filter_meet p q l this
      exact ⟨y, by simp [hy], h1, h2⟩
theorem meets {v a b : List Int} (ha : reachedP v a = true) (hb : reachedP v b = true) : ∃ x ∈ v, x ∈ a ∧ x ∈ b := by
  rw [reachedP_iff] at ha hb
  obtain ⟨x, hx, h1, h2⟩ := filter_meet (fun x => decide (x ∈ a)) (fun x => decide (x ∈ b)) v (by have h1 := ha.2; have h2 := hb.2; unfold cnt at h1 h2; omega)
  exact ⟨x, hx, by simpa using h1, by simpa using h2⟩
theorem cnt_ins (n : Int) (y : List Int) : ∀ {s : List Int}, n ∉ s → cnt (ins n s) y ≤ cnt s y + 1
  | [], _ => by simp only [ins]; exact Nat.le_trans (cnt_le _ _) (by simp)
  | x :: r, h => by
    simp only [List.mem_cons, not_or] at h
    have ih := cnt_ins n y h.2
    unfold ins
    split
    · unfold cnt
      rw [List.filter_cons]
      split <;> simp
    · rw [if_neg h.1]
      unfold cnt at *
      rw [List.filter_cons, List.filter_cons]
      split
      · simp only [List.length_cons]; omega
      · exact ih
theorem meets_next {v a b : List Int} {n : Int} (ha : reachedP v a = true) (hb : reachedP (ins n v) b = true) : ∃ x ∈ v, x ∈ a ∧ x ∈ b := by
  by_cases hm : n ∈ v
  · rw [ins_in (isS_iff.1 (reachedP_iff.1 ha).1).1 hm] at hb
    exact meets ha hb
  · rw [reachedP_iff] at ha hb
    have h1 := cnt_ins n b hm
    have h2 := length_ins_out hm
    obtain ⟨x, hx, h1, h2⟩ := filter_meet (fun x => decide (x ∈ a)) (fun x => decide (x ∈ b)) v (by have h3 := ha.2; have h4 := hb.2; unfold cnt at *; omega)
    exact ⟨x, hx, by simpa using h1, by simpa using h2⟩

/-- How many of a row are so great at least. -/
def ge (x : Int) (l : List Int) : Nat := (l.filter fun y => decide (x ≤ y)).length
theorem ge_le (x : Int) (l : List Int) : ge x l ≤ l.length := List.length_filter_le _ _
theorem ge_take_in {x : Int} {l : List Int} {k : Nat} (h : k < l.length) (hm : x ≤ l[k]) : ge x (l.take (k + 1)) = ge x (l.take k) + 1 := by
  unfold ge
  rw [List.take_succ_eq_append_getElem h, List.filter_append, List.length_append]
  simp [hm]
theorem ge_take_out {x : Int} {l : List Int} {k : Nat} (h : k < l.length) (hm : ¬ x ≤ l[k]) : ge x (l.take (k + 1)) = ge x (l.take k) := by
  unfold ge
  rw [List.take_succ_eq_append_getElem h, List.filter_append, List.length_append]
  simp [hm]
theorem ge_take_le {x : Int} {l : List Int} {k : Nat} : ge x (l.take k) ≤ k := Nat.le_trans (ge_le _ _) (List.length_take_le _ _)
/-- 'b' is what a majority has. -/
def SureIs (l : List Int) (b : Int) : Prop := b ∈ l ∧ l.length < 2 * ge b l ∧ ∀ x ∈ l, l.length < 2 * ge x l → x ≤ b
theorem sure_one {l : List Int} {b c : Int} (h : SureIs l b) (g : SureIs l c) : b = c := by
  have h1 := h.2.2 c g.1 g.2.1
  have h2 := g.2.2 b h.1 h.2.1
  omega
/-- How far the greatest has been looked for. -/
def SureAt (l : List Int) (k : Nat) (found : Bool) (best : Int) : Prop :=
  (found = false ∧ ∀ x ∈ l.take k, ¬ l.length < 2 * ge x l) ∨ (found = true ∧ best ∈ l.take k ∧ l.length < 2 * ge best l ∧ ∀ x ∈ l.take k, l.length < 2 * ge x l → x ≤ best)
theorem sureAt_zero (l : List Int) (b : Int) : SureAt l 0 false b := .inl ⟨rfl, by simp⟩
theorem mem_take_or {l : List Int} {k : Nat} (h : k < l.length) {x : Int} (hx : x ∈ l.take (k + 1)) : x ∈ l.take k ∨ x = l[k] := by
  rw [List.take_succ_eq_append_getElem h] at hx
  rcases List.mem_append.1 hx with hx | hx
  · exact .inl hx
  · exact .inr (List.mem_singleton.1 hx)
theorem sureAt_new {l : List Int} {k : Nat} {f : Bool} {b : Int} (h : SureAt l k f b) (hk : k < l.length) (he : l.length < 2 * ge l[k] l) (hb : f = false ∨ b < l[k]) : SureAt l (k + 1) true l[k] := by
  have hmem : l[k] ∈ l.take (k + 1) := by rw [List.take_succ_eq_append_getElem hk]; exact List.mem_append.2 (.inr (List.mem_singleton.2 rfl))
  refine .inr ⟨rfl, hmem, he, fun x hx hxe => ?_⟩
  rcases mem_take_or hk hx with hx | rfl
  · rcases h with ⟨hf, h⟩ | ⟨hf, h1, h2, h3⟩
    · exact absurd hxe (h x hx)
    · rcases hb with hb | hb
      · rw [hf] at hb; cases hb
      · have := h3 x hx hxe; omega
  · exact Int.le_refl _
theorem sureAt_old {l : List Int} {k : Nat} {f : Bool} {b : Int} (h : SureAt l k f b) (hk : k < l.length) (he : ¬ l.length < 2 * ge l[k] l ∨ (f = true ∧ ¬ b < l[k])) : SureAt l (k + 1) f b := by
  rcases h with ⟨rfl, h⟩ | ⟨rfl, h1, h2, h3⟩
  · refine .inl ⟨rfl, fun x hx => ?_⟩
    rcases mem_take_or hk hx with hx | rfl
    · exact h x hx
    · rcases he with he | ⟨he, _⟩
      · exact he
      · cases he
  · refine .inr ⟨rfl, ?_, h2, fun x hx hxe => ?_⟩
    · rw [List.take_succ_eq_append_getElem hk]; exact List.mem_append.2 (.inl h1)
    · rcases mem_take_or hk hx with hx | rfl
      · exact h3 x hx hxe
      · rcases he with he | ⟨_, he⟩
        · exact absurd hxe he
        · omega
theorem exists_least : ∀ {l : List Int}, l ≠ [] → ∃ m ∈ l, ∀ x ∈ l, m ≤ x
  | [], h => absurd rfl h
  | [x], _ => ⟨x, by simp, by simp⟩
  | x :: y :: r, _ => by
    obtain ⟨m, hm, h⟩ := exists_least (l := y :: r) (by simp)
    by_cases hx : x ≤ m
    · exact ⟨x, by simp, fun z hz => by rcases List.mem_cons.1 hz with rfl | hz; exact Int.le_refl _; exact Int.le_trans hx (h z hz)⟩
    · exact ⟨m, List.mem_cons_of_mem _ hm, fun z hz => by rcases List.mem_cons.1 hz with rfl | hz; omega; exact h z hz⟩
theorem ge_least {l : List Int} {m : Int} (h : ∀ x ∈ l, m ≤ x) : ge m l = l.length := by
  unfold ge
  rw [List.filter_eq_self.2]
  intro x hx
  simpa using h x hx
theorem sureAt_end {l : List Int} {k : Nat} {f : Bool} {b : Int} (h : SureAt l k f b) (hk : l.length ≤ k) (hne : l ≠ []) : SureIs l b := by
  rw [SureAt, List.take_of_length_le hk] at h
  rcases h with ⟨_, h⟩ | ⟨_, h1, h2, h3⟩
  · obtain ⟨m, hm, hl⟩ := exists_least hne
    have := List.length_pos_iff.2 hne
    exact absurd (by rw [ge_least hl]; omega) (h m hm)
  · exact ⟨h1, h2, h3⟩
theorem ge_reverse (x : Int) (l : List Int) : ge x l.reverse = ge x l := by unfold ge; rw [List.filter_reverse, List.length_reverse]
theorem sure_reverse {l : List Int} {b : Int} (h : SureIs l b) : SureIs l.reverse b := by
  obtain ⟨h1, h2, h3⟩ := h
  refine ⟨by simpa using h1, by rw [ge_reverse, List.length_reverse]; exact h2, fun x hx hxe => h3 x (by simpa using hx) ?_⟩
  rw [ge_reverse, List.length_reverse] at hxe
  exact hxe
theorem ge_set {l : List Int} {x : Int} : ∀ {k : Nat} (h : k < l.length) {v : Int}, l[k] ≤ v → ge x l ≤ ge x (l.set k v) := by
  induction l with
  | nil => intro k h; simp at h
  | cons y r ih =>
    intro k h v hv
    cases k with
    | zero =>
      simp only [List.getElem_cons_zero] at hv
      simp only [List.set_cons_zero, ge, List.filter_cons]
      by_cases h1 : x ≤ y
      · rw [if_pos (by simpa using h1), if_pos (by simp; omega)]; exact Nat.le_refl _
      · rw [if_neg (by simpa using h1)]
        split <;> simp
    | succ k =>
      simp only [List.getElem_cons_succ] at hv
      have := ih (k := k) (by simpa using h) hv
      simp only [List.set_cons_succ, ge, List.filter_cons] at *
      split
      · simp only [List.length_cons]; omega
      · exact this
theorem ge_between {l : List Int} {n y : Int} (hy : ∀ z ∈ l, n ≤ z → y ≤ z) (hn : n ≤ y) : ge y l = ge n l := by
  unfold ge
  congr 1
  apply List.filter_congr
  intro z hz
  by_cases h : n ≤ z
  · have := hy z hz h
    simp [h, this]
  · have : ¬ y ≤ z := by omega
    simp [h, this]
/-- What is sure does not fall. -/
theorem sure_grows {l : List Int} {k : Nat} {v n m : Int} (h : SureIs l n) (hk : k < l.length) (hv : l[k] ≤ v) (g : SureIs (l.set k v) m) : n ≤ m := by
  have h1 := ge_set (x := n) hk hv
  have hpos : 0 < ge n (l.set k v) := by have := h.2.1; omega
  obtain ⟨y, hy, hyl⟩ := exists_least (l := (l.set k v).filter fun y => decide (n ≤ y)) (by intro e; unfold ge at hpos; rw [e] at hpos; simp at hpos)
  rw [List.mem_filter] at hy
  have hny : n ≤ y := by simpa using hy.2
  have e := ge_between (l := l.set k v) (n := n) (y := y) (fun z hz hnz => hyl z (List.mem_filter.2 ⟨hz, by simpa using hnz⟩)) hny
  have := g.2.2 y hy.1 (by rw [e, List.length_set]; have := h.2.1; omega)
  omega
end Go.Proofs.Ytdoieefkpafgcaa
