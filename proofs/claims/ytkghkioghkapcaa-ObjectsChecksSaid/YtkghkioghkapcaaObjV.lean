/-
  Layer 7 as mathematics: when objects are right; what each call makes of right objects is right.
-/
import Derived.Test.YtkghkioghkapcaaObjU
namespace Go.Proofs.Ytkghkioghkapcaa

theorem insBy_perm {α : Type} (lt : α → α → Bool) (x : α) : ∀ l : List α, (insBy lt x l).Perm (x :: l)
  | [] => .refl _
  | y :: r => by
    unfold insBy
    split
    · exact .refl _
    · exact ((insBy_perm lt x r).cons y).trans (.swap x y r)
theorem insBy_pw {α : Type} {lt : α → α → Bool} {x : α} (tr : ∀ a b c : α, lt a b = true → lt b c = true → lt a c = true) : ∀ {l : List α}, l.Pairwise (fun a b => lt a b = true) → (∀ y ∈ l, lt x y = true ∨ lt y x = true) → (insBy lt x l).Pairwise (fun a b => lt a b = true)
  | [], _, _ => List.pairwise_singleton _ _
  | y :: r, h, hx => by
    obtain ⟨h1, h2⟩ := List.pairwise_cons.1 h
    unfold insBy
    split
    · rename_i hl
      refine List.pairwise_cons.2 ⟨fun z hz => ?_, h⟩
      rcases List.mem_cons.1 hz with rfl | hz
      · exact hl
      · exact tr _ _ _ hl (h1 z hz)
    · rename_i hl
      refine List.pairwise_cons.2 ⟨fun z hz => ?_, insBy_pw (lt := lt) tr h2 fun z hz => hx z (List.mem_cons_of_mem _ hz)⟩
      rcases List.mem_cons.1 ((insBy_perm lt x r).mem_iff.1 hz) with rfl | hz
      · rcases hx y (by simp) with h | h
        · exact absurd h hl
        · exact h
      · exact h1 z hz
theorem pairwise_adj {α : Type} {R : α → α → Prop} (tr : ∀ {a b c : α}, R a b → R b c → R a c) : ∀ {l : List α}, l.Pairwise R ↔ ∀ k (h : k + 1 < l.length), R (l[k]'(by omega)) l[k + 1]
  | [] => by simp
  | [a] => by simp
  | a :: b :: r => by
    rw [List.pairwise_cons]
    have ih := pairwise_adj (R := R) tr (l := b :: r)
    constructor
    · rintro ⟨h1, h2⟩ k hk
      cases k with
      | zero => exact h1 b (by simp)
      | succ k => exact ih.1 h2 k (by simpa using hk)
    · intro h
      have h2 : (b :: r).Pairwise R := ih.2 fun k hk => h (k + 1) (by simpa using hk)
      have hab : R a b := h 0 (by simp)
      refine ⟨fun x hx => ?_, h2⟩
      rcases List.mem_cons.1 hx with rfl | hx
      · exact hab
      · exact tr hab ((List.pairwise_cons.1 h2).1 x hx)
/-- In a row that rises, places tell elements apart. -/
theorem pw_ne {α : Type} {R : α → α → Prop} {l : List α} (h : l.Pairwise R) {x y : α} (hx : x ∈ l) (hy : y ∈ l) (hne : x ≠ y) : R x y ∨ R y x := by
  obtain ⟨i, hi, rfl⟩ := List.mem_iff_getElem.1 hx
  obtain ⟨j, hj, rfl⟩ := List.mem_iff_getElem.1 hy
  rw [List.pairwise_iff_getElem] at h
  rcases Nat.lt_trichotomy i j with h1 | h1 | h1
  · exact .inl (h i j hi hj h1)
  · subst h1; exact absurd rfl hne
  · exact .inr (h j i hj hi h1)

theorem ahead_trans {a b c : Tab} (h : ahead a b = true) (g : ahead b c = true) : ahead a c = true := by
  unfold ahead at *
  simp only [Bool.or_eq_true, Bool.and_eq_true, eqT_iff] at *
  rcases h with h | ⟨h, h'⟩ <;> rcases g with g | ⟨g, g'⟩
  · exact .inl (ltT_trans h g)
  · exact .inl (g ▸ h)
  · exact .inl (h ▸ g)
  · exact .inr ⟨h.trans g, ltT_trans h' g'⟩
theorem ahead_ne {a b : Tab} (h : ahead a b = true) (h1 : a.schema = b.schema) : a.name ≠ b.name := by
  intro h2
  unfold ahead at h
  rw [h1, h2, ltT_irr, ltT_irr] at h
  simp at h
theorem ahead_or {a b : Tab} (h : ¬ (a.schema = b.schema ∧ a.name = b.name)) : ahead a b = true ∨ ahead b a = true := by
  unfold ahead
  simp only [Bool.or_eq_true, Bool.and_eq_true, eqT_iff]
  rcases ltT_or (a := a.schema) (b := b.schema) with h1 | h1 | h1
  · exact .inl (.inl h1)
  · rcases ltT_or (a := a.name) (b := b.name) with h2 | h2 | h2
    · exact .inl (.inr ⟨h1, h2⟩)
    · exact absurd ⟨h1, h2⟩ h
    · exact .inr (.inr ⟨h1.symm, h2⟩)
  · exact .inr (.inl h1)

/-- Columns that may be. -/
structure ColsP (l : List Col) : Prop where
  some : 1 ≤ l.length
  few : l.length ≤ 8
  one : ∀ c ∈ l, oneB c = true
  apart : l.Pairwise fun a b => a.name ≠ b.name
theorem colI_neg {l : List Col} {s : ByteArray} : colI l s < 0 ↔ ∀ c ∈ l, c.name ≠ s := by
  constructor
  · intro h c hc e
    have := idxI_neg h c hc
    simp only [e, eqT_refl] at this
    cases this
  · intro h
    have : colI l s = -1 := idxI_no fun c hc => eqT_no.2 (h c hc)
    omega
theorem cols_iff {l : List Col} : colsB l = true ↔ ColsP l := by
  unfold colsB
  rw [Bool.and_eq_true, decide_eq_true_eq, all_range]
  constructor
  · rintro ⟨⟨h1, h2⟩, h3⟩
    have h4 : ∀ k (hk : k < l.length), oneB l[k] = true ∧ ∀ c ∈ l.take k, c.name ≠ l[k].name := by
      intro k hk
      have := h3 k hk
      unfold colsAt at this
      rw [List.getElem?_eq_getElem hk] at this
      simp only [Bool.and_eq_true, decide_eq_true_eq] at this
      exact ⟨this.1, colI_neg.1 this.2⟩
    refine ⟨h1, h2, fun c hc => ?_, ?_⟩
    · obtain ⟨k, hk, rfl⟩ := List.mem_iff_getElem.1 hc
      exact (h4 k hk).1
    · rw [List.pairwise_iff_getElem]
      intro i j hi hj hij
      exact (h4 j hj).2 _ (List.mem_take_iff_getElem.2 ⟨i, by omega, rfl⟩)
  · rintro ⟨h1, h2, h3, h4⟩
    refine ⟨⟨h1, h2⟩, fun k hk => ?_⟩
    unfold colsAt
    rw [List.getElem?_eq_getElem hk]
    simp only [Bool.and_eq_true, decide_eq_true_eq]
    refine ⟨h3 _ (List.getElem_mem hk), colI_neg.2 fun c hc => ?_⟩
    obtain ⟨i, hi, rfl⟩ := List.mem_take_iff_getElem.1 hc
    rw [List.pairwise_iff_getElem] at h4
    exact h4 i k (by omega) hk (by omega)
theorem lookC_iff {l : List Col} (h : l.Pairwise fun a b => a.name ≠ b.name) {n : ByteArray} {c : Col} : lookC l n = some c ↔ c ∈ l ∧ c.name = n := by
  unfold lookC
  rw [find_uniq]
  · simp only [eqT_iff]
  · intro x hx y hy h1 h2
    rw [eqT_iff] at h1 h2
    by_cases e : x = y
    · exact e
    · rcases pw_ne h hx hy e with g | g
      · exact absurd (h1.trans h2.symm) g
      · exact absurd (h2.trans h1.symm) g
theorem lookR_iff {l : List Rul} (h : l.Pairwise fun a b => ltR a b = true) {n : ByteArray} {r : Rul} : lookR l n = some r ↔ r ∈ l ∧ r.name = n := by
  unfold lookR
  rw [find_uniq]
  · simp only [eqT_iff]
  · intro x hx y hy h1 h2
    rw [eqT_iff] at h1 h2
    by_cases e : x = y
    · exact e
    · rcases pw_ne h hx hy e with g | g
      · unfold ltR at g; rw [h1, h2, ltT_irr] at g; cases g
      · unfold ltR at g; rw [h1, h2, ltT_irr] at g; cases g
theorem lookT_iff {l : List Tab} (h : l.Pairwise fun a b => ahead a b = true) {s n : ByteArray} {t : Tab} : lookT l s n = some t ↔ t ∈ l ∧ t.schema = s ∧ t.name = n := by
  unfold lookT
  rw [find_uniq]
  · simp only [Bool.and_eq_true, eqT_iff]
  · intro x hx y hy h1 h2
    rw [Bool.and_eq_true, eqT_iff, eqT_iff] at h1 h2
    by_cases e : x = y
    · exact e
    · rcases pw_ne h hx hy e with g | g
      · exact absurd (h1.2.trans h2.2.symm) (ahead_ne g (h1.1.trans h2.1.symm))
      · exact absurd (h2.2.trans h1.2.symm) (ahead_ne g (h2.1.trans h1.1.symm))

structure TabP (o : Objs) (t : Tab) : Prop where
  there : ∃ s ∈ o.schemas, s.name = t.schema
  name : nameB t.name = true
  owner : nameB t.owner = true
  cols : ColsP t.cols
  r8 : t.rules.length ≤ 8
  rrise : t.rules.Pairwise fun a b => ltR a b = true
  fits : ∀ r ∈ t.rules, fitsB t.cols r = true
  key : ∀ r ∈ t.rules, r.kind = 4 → KeyOk o.tables t.cols r
structure RightP (o : Objs) : Prop where
  s8 : o.schemas.length ≤ 8
  sname : ∀ s ∈ o.schemas, nameB s.name = true ∧ nameB s.owner = true ∧ tabN o.tables s.name ≤ 8
  srise : o.schemas.Pairwise fun a b => ltS a b = true
  t64 : o.tables.length ≤ 64
  trise : o.tables.Pairwise fun a b => ahead a b = true
  tab : ∀ t ∈ o.tables, TabP o t
theorem schI_iff {l : List Sch} {n : ByteArray} : 0 ≤ schI l n ↔ ∃ s ∈ l, s.name = n := by
  rcases idxI_find (fun x : Sch => eqT x.name n) l with ⟨h1, h2⟩ | ⟨k, hk, h1, h2, h3⟩
  · constructor
    · intro h; unfold schI at h; omega
    · rintro ⟨s, hs, rfl⟩
      rw [List.find?_eq_none] at h2
      exact absurd (eqT_refl _) (h2 s hs)
  · constructor
    · intro _; exact ⟨_, List.getElem_mem hk, eqT_iff.1 h3⟩
    · intro _; unfold schI; omega
theorem tab_iff {o : Objs} {t : Tab} : tabB o t = true ↔ TabP o t := by
  unfold tabB
  simp only [Bool.and_eq_true, decide_eq_true_eq, all_range, schI_iff, cols_iff]
  constructor
  · rintro ⟨⟨h1, h2, h3, h4, h5⟩, h6⟩
    have h7 : ∀ k (hk : k < t.rules.length), fitsB t.cols t.rules[k] = true ∧ (t.rules[k].kind = 4 → KeyOk o.tables t.cols t.rules[k]) := by
      intro k hk
      have := h6 k hk
      unfold rulAt at this
      rw [List.getElem?_eq_getElem hk] at this
      simp only [Bool.and_eq_true, Bool.or_eq_true, decide_eq_true_eq] at this
      refine ⟨this.2.1, fun h4 => ?_⟩
      rcases this.2.2 with h | h
      · exact absurd h4 h
      · exact keyE_iff.1 h
    refine ⟨h1, h2, h3, h4, h5, (pairwise_adj (R := fun a b => ltR a b = true) fun h g => ltT_trans h g).2 fun k hk => ?_, fun r hr => ?_, fun r hr => ?_⟩
    · have := h6 (k + 1) hk
      unfold rulAt at this
      rw [List.getElem?_eq_getElem hk] at this
      simp only [Nat.add_sub_cancel, Bool.and_eq_true, Bool.or_eq_true, decide_eq_true_eq] at this
      rw [List.getElem?_eq_getElem (by omega)] at this
      rcases this.1 with h | h
      · omega
      · exact h
    · obtain ⟨k, hk, rfl⟩ := List.mem_iff_getElem.1 hr; exact (h7 k hk).1
    · obtain ⟨k, hk, rfl⟩ := List.mem_iff_getElem.1 hr; exact (h7 k hk).2
  · rintro ⟨h1, h2, h3, h4, h5, h6, h7, h8⟩
    refine ⟨⟨h1, h2, h3, h4, h5⟩, fun k hk => ?_⟩
    have hm := List.getElem_mem hk
    unfold rulAt
    rw [List.getElem?_eq_getElem hk]
    simp only [Bool.and_eq_true, Bool.or_eq_true, decide_eq_true_eq]
    refine ⟨?_, h7 _ hm, ?_⟩
    · cases k with
      | zero => exact .inl rfl
      | succ k =>
        right
        rw [Nat.add_sub_cancel, List.getElem?_eq_getElem (by omega)]
        exact (pairwise_adj (R := fun a b => ltR a b = true) fun h g => ltT_trans h g).1 h6 k hk
    · by_cases h : t.rules[k].kind = 4
      · exact .inr (keyE_iff.2 (h8 _ hm h))
      · exact .inl h
theorem right_iff {o : Objs} : rightB o = true ↔ RightP o := by
  unfold rightB rowsB
  simp only [Bool.and_eq_true, decide_eq_true_eq, List.all_eq_true, List.mem_range, tab_iff]
  constructor
  · rintro ⟨⟨h1, h2, h3, h4, _⟩, h6⟩
    have h7 : ∀ k (hk : k < o.schemas.length), nameB o.schemas[k].name = true ∧ nameB o.schemas[k].owner = true ∧ tabN o.tables o.schemas[k].name ≤ 8 := by
      intro k hk
      have := h3 k hk
      unfold schAt at this
      rw [List.getElem?_eq_getElem hk] at this
      simp only [Bool.and_eq_true, decide_eq_true_eq] at this
      exact ⟨this.1, this.2.1, this.2.2.2⟩
    refine ⟨h1, fun s hs => ?_, (pairwise_adj (R := fun a b => ltS a b = true) fun h g => ltT_trans h g).2 fun k hk => ?_, h2, (pairwise_adj (R := fun a b => ahead a b = true) fun h g => ahead_trans h g).2 fun k hk => ?_, h6⟩
    · obtain ⟨k, hk, rfl⟩ := List.mem_iff_getElem.1 hs; exact h7 k hk
    · have := h3 (k + 1) hk
      unfold schAt at this
      rw [List.getElem?_eq_getElem hk] at this
      simp only [Nat.add_sub_cancel, Bool.and_eq_true, Bool.or_eq_true, decide_eq_true_eq] at this
      rw [List.getElem?_eq_getElem (by omega)] at this
      rcases this.2.2.1 with h | h
      · omega
      · exact h
    · have := h4 k (by omega)
      unfold riseAt at this
      rw [List.getElem?_eq_getElem hk, List.getElem?_eq_getElem (by omega)] at this
      exact this
  · rintro ⟨h1, h2, h3, h4, h5, h6⟩
    refine ⟨⟨h1, h4, fun k hk => ?_, fun k hk => ?_, h1⟩, h6⟩
    · unfold schAt
      rw [List.getElem?_eq_getElem hk]
      simp only [Bool.and_eq_true, Bool.or_eq_true, decide_eq_true_eq]
      obtain ⟨g1, g2, g3⟩ := h2 _ (List.getElem_mem hk)
      refine ⟨g1, g2, ?_, g3⟩
      cases k with
      | zero => exact .inl rfl
      | succ k =>
        right
        rw [Nat.add_sub_cancel, List.getElem?_eq_getElem (by omega)]
        exact (pairwise_adj (R := fun a b => ltS a b = true) fun h g => ltT_trans h g).1 h3 k hk
    · unfold riseAt
      rw [List.getElem?_eq_getElem (by omega), List.getElem?_eq_getElem (by omega)]
      exact (pairwise_adj (R := fun a b => ahead a b = true) fun h g => ahead_trans h g).1 h5 k (by omega)
end Go.Proofs.Ytkghkioghkapcaa
