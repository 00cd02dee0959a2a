/-
  Sets as mathematics: rising lists of numbers; a number laid in, left out; two of them merged with marks.
-/
namespace Go.Proofs.Ytkghkioghkapcaa

/-- Rising. -/
def Up (s : List Int) : Prop := s.Pairwise (· < ·)
instance (s : List Int) : Decidable (Up s) := inferInstanceAs (Decidable (s.Pairwise (· < ·)))
/-- A set of at most 16 numbers. -/
def isS (s : List Int) : Bool := decide (Up s) && decide (s.length ≤ 16)
theorem isS_iff {s : List Int} : isS s = true ↔ Up s ∧ s.length ≤ 16 := by simp [isS]
theorem isS_no {s : List Int} : isS s = false ↔ ¬ (Up s ∧ s.length ≤ 16) := by rw [← isS_iff]; simp
theorem isS_long {s : List Int} (h : 16 < s.length) : isS s = false := by rw [isS_no]; omega
theorem isS_fall {s : List Int} (h : ¬ Up s) : isS s = false := by rw [isS_no]; exact fun k => h k.1
theorem isS_ok {s : List Int} (h : Up s) (h2 : s.length ≤ 16) : isS s = true := isS_iff.2 ⟨h, h2⟩
theorem up_nil : Up [] := List.Pairwise.nil
theorem up_cons {x : Int} {s : List Int} : Up (x :: s) ↔ (∀ y ∈ s, x < y) ∧ Up s := List.pairwise_cons
theorem up_one (x : Int) : Up [x] := by rw [up_cons]; exact ⟨by simp, up_nil⟩
theorem up_take_one {s : List Int} {k : Nat} (hk : k ≤ 1) : Up (s.take k) := by
  rcases s with _ | ⟨x, s⟩
  · simpa using up_nil
  · rcases k with _ | _ | k
    · exact up_nil
    · exact up_one x
    · omega
theorem up_take_succ {s : List Int} {k : Nat} (hk : k + 1 < s.length) (h : Up (s.take (k + 1))) (hlt : s[k] < s[k + 1]) : Up (s.take (k + 2)) := by
  have e : s.take (k + 2) = s.take (k + 1) ++ [s[k + 1]] := List.take_succ_eq_append_getElem hk
  have e1 : s.take (k + 1) = s.take k ++ [s[k]] := List.take_succ_eq_append_getElem (by omega)
  rw [e]
  refine List.pairwise_append.2 ⟨h, List.pairwise_singleton _ _, ?_⟩
  intro x hx y hy
  obtain rfl := List.mem_singleton.1 hy
  rw [e1] at hx
  rcases List.mem_append.1 hx with hx | hx
  · rw [e1] at h
    have := (List.pairwise_append.1 h).2.2 x hx s[k] (by simp)
    omega
  · rw [List.mem_singleton.1 hx]; exact hlt
theorem up_fall {s : List Int} {k : Nat} (hk : k + 1 < s.length) (hlt : ¬ s[k] < s[k + 1]) : ¬ Up s := by
  intro h
  exact hlt (List.pairwise_iff_getElem.1 h k (k + 1) (by omega) hk (by omega))
theorem up_ext : ∀ {s t : List Int}, Up s → Up t → (∀ x, x ∈ s ↔ x ∈ t) → s = t
  | [], [], _, _, _ => rfl
  | x :: s, [], _, _, h => by have := (h x).1 (by simp); simp at this
  | [], y :: t, _, _, h => by have := (h y).2 (by simp); simp at this
  | x :: s, y :: t, hs, ht, h => by
    rw [up_cons] at hs ht
    have hxy : x = y := by
      have h1 := (h x).1 (by simp)
      have h2 := (h y).2 (by simp)
      rcases List.mem_cons.1 h1 with h1 | h1
      · exact h1
      · rcases List.mem_cons.1 h2 with h2 | h2
        · exact h2.symm
        · have := ht.1 x h1; have := hs.1 y h2; omega
    subst hxy
    congr 1
    refine up_ext hs.2 ht.2 fun z => ⟨fun hz => ?_, fun hz => ?_⟩
    · rcases List.mem_cons.1 ((h z).1 (by simp [hz])) with e | e
      · have := hs.1 z hz; omega
      · exact e
    · rcases List.mem_cons.1 ((h z).2 (by simp [hz])) with e | e
      · have := ht.1 z hz; omega
      · exact e
theorem up_filter {s : List Int} (h : Up s) (p : Int → Bool) : Up (s.filter p) := List.Pairwise.filter p h

/-- A number laid in. -/
def ins (n : Int) : List Int → List Int
  | [] => [n]
  | x :: r => if n < x then n :: x :: r else if n = x then x :: r else x :: ins n r
theorem mem_ins {n x : Int} : ∀ {s : List Int}, x ∈ ins n s ↔ x = n ∨ x ∈ s
  | [] => by simp [ins]
  | y :: r => by
    unfold ins
    split
    · simp
    · split
      · rename_i h; subst h; simp
      · simp [mem_ins (s := r)]; constructor <;> (rintro (h | h | h) <;> simp [h])
theorem up_ins {n : Int} : ∀ {s : List Int}, Up s → Up (ins n s)
  | [], _ => up_one n
  | y :: r, h => by
    rw [up_cons] at h
    unfold ins
    split
    · rename_i hlt
      rw [up_cons, up_cons]
      refine ⟨?_, h⟩
      intro z hz
      rcases List.mem_cons.1 hz with rfl | hz
      · exact hlt
      · have := h.1 z hz; omega
    · split
      · exact up_cons.2 h
      · rw [up_cons]
        refine ⟨?_, up_ins h.2⟩
        intro z hz
        rcases mem_ins.1 hz with rfl | hz
        · omega
        · exact h.1 z hz
theorem ins_in {n : Int} {s : List Int} (h : Up s) (hm : n ∈ s) : ins n s = s :=
  up_ext (up_ins h) h fun x => by
    rw [mem_ins]
    constructor
    · rintro (rfl | h)
      · exact hm
      · exact h
    · exact .inr
theorem length_ins_le {n : Int} : ∀ (s : List Int), (ins n s).length ≤ s.length + 1
  | [] => by simp [ins]
  | y :: r => by
    unfold ins
    split
    · simp
    · split
      · simp
      · simpa using length_ins_le r
theorem length_ins_out {n : Int} : ∀ {s : List Int}, n ∉ s → (ins n s).length = s.length + 1
  | [], _ => by simp [ins]
  | y :: r, h => by
    simp only [List.mem_cons, not_or] at h
    unfold ins
    split
    · simp
    · rw [if_neg h.1]
      simpa using length_ins_out h.2
theorem length_ins_ge {n : Int} {s : List Int} (h : Up s) : s.length ≤ (ins n s).length := by
  by_cases hm : n ∈ s
  · rw [ins_in h hm]; exact Nat.le_refl _
  · rw [length_ins_out hm]; omega

/-- How far a set's numbers and n are laid: 'acc' stands, those from place i on are to come. -/
def PutAt (n : Int) (s acc : List Int) (i : Nat) (inn : Bool) : Prop :=
  (inn = true ∧ acc ++ s.drop i = ins n s) ∨ (inn = false ∧ acc = s.take i ∧ s.take i ++ ins n (s.drop i) = ins n s ∧ n ∉ s.drop i)
theorem putAt_in {n : Int} {s : List Int} (h : Up s) (hm : n ∈ s) : PutAt n s [] 0 true := .inl ⟨rfl, by simpa using (ins_in h hm).symm⟩
theorem putAt_out {n : Int} {s : List Int} (hm : n ∉ s) : PutAt n s [] 0 false := .inr ⟨rfl, rfl, rfl, by simpa using hm⟩
theorem putAt_more {n : Int} {s acc : List Int} {i : Nat} (h : PutAt n s acc i true) (hi : i < s.length) : PutAt n s (acc ++ [s[i]]) (i + 1) true := by
  rcases h with ⟨_, h⟩ | ⟨h, _⟩
  · refine .inl ⟨rfl, ?_⟩
    rw [List.drop_eq_getElem_cons hi] at h
    simpa using h
  · cases h
theorem putAt_here {n : Int} {s acc : List Int} {i : Nat} (h : PutAt n s acc i false) (hi : i < s.length) (hlt : n < s[i]) : PutAt n s (acc ++ [n] ++ [s[i]]) (i + 1) true := by
  rcases h with ⟨h, _⟩ | ⟨_, rfl, h, hm⟩
  · cases h
  · refine .inl ⟨rfl, ?_⟩
    rw [List.drop_eq_getElem_cons hi] at h
    rw [← h]
    simp [ins, hlt]
theorem putAt_past {n : Int} {s acc : List Int} {i : Nat} (h : PutAt n s acc i false) (hi : i < s.length) (hlt : ¬ n < s[i]) : PutAt n s (acc ++ [s[i]]) (i + 1) false := by
  rcases h with ⟨h, _⟩ | ⟨_, rfl, h, hm⟩
  · cases h
  · rw [List.drop_eq_getElem_cons hi] at h hm
    simp only [List.mem_cons, not_or] at hm
    have e : s.take (i + 1) = s.take i ++ [s[i]] := List.take_succ_eq_append_getElem hi
    refine .inr ⟨rfl, e.symm, ?_, hm.2⟩
    rw [← h, e, List.append_assoc]
    simp only [ins, if_neg hlt, if_neg hm.1, List.singleton_append]
theorem putAt_done {n : Int} {s acc : List Int} {i : Nat} (h : PutAt n s acc i true) (hi : ¬ i < s.length) : acc = ins n s := by
  rcases h with ⟨_, h⟩ | ⟨h, _⟩
  · rwa [List.drop_eq_nil_of_le (by omega), List.append_nil] at h
  · cases h
theorem putAt_last {n : Int} {s acc : List Int} {i : Nat} (h : PutAt n s acc i false) (hi : ¬ i < s.length) : acc ++ [n] = ins n s := by
  rcases h with ⟨h, _⟩ | ⟨_, rfl, h, hm⟩
  · cases h
  · rwa [List.drop_eq_nil_of_le (by omega)] at h

/-- The least of two rows' first numbers, with a mark of the rows that have it; in none, if none is left. -/
def lst : List Int → List Int → Int × Nat
  | [], [] => (0, 0)
  | x :: _, [] => (x, 1)
  | [], y :: _ => (y, 2)
  | x :: _, y :: _ => if y < x then (y, 2) else if y = x then (x, 3) else (x, 1)
/-- Two rows merged. -/
def mrg : List Int → List Int → List (Int × Nat)
  | [], [] => []
  | x :: r, [] => (x, 1) :: mrg r []
  | [], y :: t => (y, 2) :: mrg [] t
  | x :: r, y :: t => if y < x then (y, 2) :: mrg (x :: r) t else if y = x then (x, 3) :: mrg r t else (x, 1) :: mrg r (y :: t)
termination_by a b => a.length + b.length

theorem mrg_end {a b : List Int} (h : (lst a b).2 = 0) : mrg a b = [] := by
  rcases a with _ | ⟨x, r⟩ <;> rcases b with _ | ⟨y, t⟩
  · simp [mrg]
  · simp [lst] at h
  · simp [lst] at h
  · simp only [lst] at h
    split at h
    · cases h
    · split at h <;> cases h
theorem lst_three (a b : List Int) : (lst a b).2 = 0 ∨ (lst a b).2 = 1 ∨ (lst a b).2 = 2 ∨ (lst a b).2 = 3 := by
  rcases a with _ | ⟨x, r⟩ <;> rcases b with _ | ⟨y, t⟩ <;> simp [lst]
  split
  · simp
  · split <;> simp
theorem mrg_one {a b : List Int} (h : (lst a b).2 = 1) : a ≠ [] ∧ mrg a b = lst a b :: mrg (a.drop 1) b := by
  rcases a with _ | ⟨x, r⟩ <;> rcases b with _ | ⟨y, t⟩
  · simp [lst] at h
  · simp [lst] at h
  · simp [lst, mrg]
  · simp only [lst] at h
    simp only [lst, mrg]
    split at h
    · cases h
    · split at h
      · cases h
      · simp [*]
theorem mrg_two {a b : List Int} (h : (lst a b).2 = 2) : b ≠ [] ∧ mrg a b = lst a b :: mrg a (b.drop 1) := by
  rcases a with _ | ⟨x, r⟩ <;> rcases b with _ | ⟨y, t⟩
  · simp [lst] at h
  · simp [lst, mrg]
  · simp [lst] at h
  · simp only [lst] at h
    simp only [lst, mrg]
    split at h
    · simp [*]
    · split at h
      · cases h
      · cases h
theorem mrg_three {a b : List Int} (h : (lst a b).2 = 3) : a ≠ [] ∧ b ≠ [] ∧ mrg a b = lst a b :: mrg (a.drop 1) (b.drop 1) := by
  rcases a with _ | ⟨x, r⟩ <;> rcases b with _ | ⟨y, t⟩
  · simp [lst] at h
  · simp [lst] at h
  · simp [lst] at h
  · simp only [lst] at h
    simp only [lst, mrg]
    split at h
    · cases h
    · split at h
      · simp [*]
      · cases h
theorem length_mrg : ∀ (a b : List Int), (mrg a b).length ≤ a.length + b.length
  | [], [] => by simp [mrg]
  | x :: r, [] => by have := length_mrg r []; simp [mrg] at *; omega
  | [], y :: t => by have := length_mrg [] t; simp [mrg] at *; omega
  | x :: r, y :: t => by
    have h1 := length_mrg (x :: r) t
    have h2 := length_mrg r t
    have h3 := length_mrg r (y :: t)
    unfold mrg
    simp only [List.length_cons] at *
    split
    · simp; omega
    · split <;> (simp; omega)
termination_by a b => a.length + b.length

/-- What a merged row has: each number of the two, with its mark. -/
theorem mem_mrg : ∀ {a b : List Int}, Up a → Up b → ∀ {x : Int} {c : Nat}, (x, c) ∈ mrg a b ↔ (x ∈ a ∧ x ∉ b ∧ c = 1) ∨ (x ∉ a ∧ x ∈ b ∧ c = 2) ∨ (x ∈ a ∧ x ∈ b ∧ c = 3)
  | [], [], _, _, x, c => by simp [mrg]
  | z :: r, [], ha, hb, x, c => by
    have := @mem_mrg r [] (up_cons.1 ha).2 hb x c
    simp only [mrg, List.mem_cons, Prod.mk.injEq, this]
    simp
    constructor
    · rintro (⟨rfl, rfl⟩ | ⟨h, rfl⟩) <;> simp [*]
    · rintro ⟨rfl | h, rfl⟩ <;> simp [*]
  | [], z :: t, ha, hb, x, c => by
    have := @mem_mrg [] t ha (up_cons.1 hb).2 x c
    simp only [mrg, List.mem_cons, Prod.mk.injEq, this]
    simp
    constructor
    · rintro (⟨rfl, rfl⟩ | ⟨h, rfl⟩) <;> simp [*]
    · rintro ⟨rfl | h, rfl⟩ <;> simp [*]
  | y :: r, z :: t, ha, hb, x, c => by
    have hya := up_cons.1 ha
    have hzb := up_cons.1 hb
    have h1 := @mem_mrg (y :: r) t ha hzb.2 x c
    have h2 := @mem_mrg r t hya.2 hzb.2 x c
    have h3 := @mem_mrg r (z :: t) hya.2 hb x c
    unfold mrg
    have k1 : x ∈ r → y < x := hya.1 x
    have k2 : x ∈ t → z < x := hzb.1 x
    split
    · rename_i hlt
      simp only [List.mem_cons, Prod.mk.injEq, h1]
      by_cases e1 : x = z
      · subst e1
        have n1 : x ∉ r := fun h => by have := k1 h; omega
        have n2 : x ∉ t := fun h => by have := k2 h; omega
        have n3 : x ≠ y := by omega
        simp [n1, n2, n3]
      · simp [e1]
    · split
      · rename_i hlt he
        subst he
        simp only [List.mem_cons, Prod.mk.injEq, h2]
        by_cases e1 : x = z
        · subst e1
          have n1 : x ∉ r := fun h => by have := k1 h; omega
          have n2 : x ∉ t := fun h => by have := k2 h; omega
          simp [n1, n2]
        · simp [e1]
      · rename_i hlt he
        simp only [List.mem_cons, Prod.mk.injEq, h3]
        by_cases e1 : x = y
        · subst e1
          have n1 : x ∉ r := fun h => by have := k1 h; omega
          have n2 : x ∉ t := fun h => by have := k2 h; omega
          have n3 : x ≠ z := by omega
          simp [n1, n2, n3]
        · simp [e1]
termination_by a b => a.length + b.length

theorem mem_mrg_fst {a b : List Int} (ha : Up a) (hb : Up b) {x : Int} : x ∈ (mrg a b).map Prod.fst ↔ x ∈ a ∨ x ∈ b := by
  rw [List.mem_map]
  constructor
  · rintro ⟨⟨y, c⟩, h, rfl⟩
    rcases (mem_mrg ha hb).1 h with h | h | h
    · exact .inl h.1
    · exact .inr h.2.1
    · exact .inl h.1
  · intro h
    by_cases h1 : x ∈ a <;> by_cases h2 : x ∈ b
    · exact ⟨(x, 3), (mem_mrg ha hb).2 (by simp [h1, h2]), rfl⟩
    · exact ⟨(x, 1), (mem_mrg ha hb).2 (by simp [h1, h2]), rfl⟩
    · exact ⟨(x, 2), (mem_mrg ha hb).2 (by simp [h1, h2]), rfl⟩
    · rcases h with h | h <;> contradiction
theorem up_mrg : ∀ {a b : List Int}, Up a → Up b → Up ((mrg a b).map Prod.fst)
  | [], [], _, _ => by simpa [mrg] using up_nil
  | z :: r, [], ha, hb => by
    have := up_mrg (up_cons.1 ha).2 hb
    simp only [mrg, List.map_cons]
    rw [up_cons]
    refine ⟨fun y hy => ?_, this⟩
    rcases (mem_mrg_fst (up_cons.1 ha).2 hb).1 hy with h | h
    · exact (up_cons.1 ha).1 y h
    · simp at h
  | [], z :: t, ha, hb => by
    have := up_mrg ha (up_cons.1 hb).2
    simp only [mrg, List.map_cons]
    rw [up_cons]
    refine ⟨fun y hy => ?_, this⟩
    rcases (mem_mrg_fst ha (up_cons.1 hb).2).1 hy with h | h
    · simp at h
    · exact (up_cons.1 hb).1 y h
  | y :: r, z :: t, ha, hb => by
    have hya := up_cons.1 ha
    have hzb := up_cons.1 hb
    have h1 := up_mrg ha hzb.2
    have h2 := up_mrg hya.2 hzb.2
    have h3 := up_mrg hya.2 hb
    unfold mrg
    split
    · rename_i hlt
      simp only [List.map_cons]
      rw [up_cons]
      refine ⟨fun x hx => ?_, h1⟩
      rcases (mem_mrg_fst ha hzb.2).1 hx with h | h
      · rcases List.mem_cons.1 h with rfl | h
        · exact hlt
        · have := hya.1 x h; omega
      · exact hzb.1 x h
    · split
      · rename_i hlt he
        subst he
        simp only [List.map_cons]
        rw [up_cons]
        refine ⟨fun x hx => ?_, h2⟩
        rcases (mem_mrg_fst hya.2 hzb.2).1 hx with h | h
        · exact hya.1 x h
        · exact hzb.1 x h
      · rename_i hlt he
        simp only [List.map_cons]
        rw [up_cons]
        refine ⟨fun x hx => ?_, h3⟩
        rcases (mem_mrg_fst hya.2 hb).1 hx with h | h
        · exact hya.1 x h
        · rcases List.mem_cons.1 h with rfl | h
          · omega
          · have := hzb.1 x h; omega
termination_by a b => a.length + b.length

/-- The numbers of those places whose mark is wanted. -/
def pick (ws : List Nat) (ps : List (Int × Nat)) : List Int := (ps.filter fun p => decide (p.2 ∈ ws)).map Prod.fst
theorem pick_snoc (ws : List Nat) (ps : List (Int × Nat)) (p : Int × Nat) : pick ws (ps ++ [p]) = pick ws ps ++ (if p.2 ∈ ws then [p.1] else []) := by
  unfold pick
  rw [List.filter_append, List.map_append]
  by_cases h : p.2 ∈ ws <;> simp [h]
theorem length_pick (ws : List Nat) (ps : List (Int × Nat)) : (pick ws ps).length ≤ ps.length := by
  unfold pick; rw [List.length_map]; exact List.length_filter_le _ _
theorem up_pick (ws : List Nat) {a b : List Int} (ha : Up a) (hb : Up b) : Up (pick ws (mrg a b)) :=
  List.Pairwise.sublist (List.Sublist.map _ List.filter_sublist) (up_mrg ha hb)
theorem mem_pick {ws : List Nat} {ps : List (Int × Nat)} {x : Int} : x ∈ pick ws ps ↔ ∃ c, c ∈ ws ∧ (x, c) ∈ ps := by
  unfold pick
  simp only [List.mem_map, List.mem_filter, decide_eq_true_eq]
  constructor
  · rintro ⟨⟨y, c⟩, ⟨h1, h2⟩, rfl⟩; exact ⟨c, h2, h1⟩
  · rintro ⟨c, h1, h2⟩; exact ⟨(x, c), ⟨h2, h1⟩, rfl⟩
/-- All numbers of two sets; those of both; those of the first one alone. -/
def uni (a b : List Int) : List Int := b.foldl (fun s n => ins n s) a
def com (a b : List Int) : List Int := a.filter fun x => decide (x ∈ b)
def dif (a : List Int) (n : Int) : List Int := a.filter fun x => decide (x ≠ n)
theorem up_uni : ∀ {b a : List Int}, Up a → Up (uni a b)
  | [], _, h => h
  | y :: b, a, h => by unfold uni; rw [List.foldl_cons]; exact up_uni (b := b) (up_ins h)
theorem mem_uni {x : Int} : ∀ {b a : List Int}, x ∈ uni a b ↔ x ∈ a ∨ x ∈ b
  | [], a => by simp [uni]
  | y :: b, a => by
    have := mem_uni (x := x) (b := b) (a := ins y a)
    unfold uni at *
    rw [List.foldl_cons, this, mem_ins, List.mem_cons]
    constructor
    · rintro ((h | h) | h)
      · exact .inr (.inl h)
      · exact .inl h
      · exact .inr (.inr h)
    · rintro (h | h | h)
      · exact .inl (.inr h)
      · exact .inl (.inl h)
      · exact .inr h
theorem uni_one (a : List Int) (n : Int) : uni a [n] = ins n a := rfl
theorem uni_snoc (a b : List Int) (n : Int) : uni a (b ++ [n]) = ins n (uni a b) := by simp [uni]
theorem up_com {a : List Int} (h : Up a) (b : List Int) : Up (com a b) := up_filter h _
theorem up_dif {a : List Int} (h : Up a) (n : Int) : Up (dif a n) := up_filter h _
theorem mem_com {a b : List Int} {x : Int} : x ∈ com a b ↔ x ∈ a ∧ x ∈ b := by simp [com]
theorem mem_dif {a : List Int} {n x : Int} : x ∈ dif a n ↔ x ∈ a ∧ x ≠ n := by simp [dif]
theorem mark_mrg {a b : List Int} (ha : Up a) (hb : Up b) {x : Int} {c : Nat} (h : (x, c) ∈ mrg a b) : c = 1 ∨ c = 2 ∨ c = 3 := by
  rcases (mem_mrg ha hb).1 h with h | h | h <;> simp [h.2.2]
theorem pick_all {a b : List Int} (ha : Up a) (hb : Up b) : pick [1, 2, 3] (mrg a b) = uni a b :=
  up_ext (up_pick _ ha hb) (up_uni ha) fun x => by
    rw [mem_pick, mem_uni, ← mem_mrg_fst ha hb, List.mem_map]
    constructor
    · rintro ⟨c, _, h⟩; exact ⟨(x, c), h, rfl⟩
    · rintro ⟨⟨y, c⟩, h, rfl⟩
      refine ⟨c, ?_, h⟩
      rcases mark_mrg ha hb h with h | h | h <;> simp [h]
theorem length_uni {a b : List Int} (ha : Up a) (hb : Up b) : (mrg a b).length = (uni a b).length := by
  rw [← pick_all ha hb]
  unfold pick
  rw [List.length_map, List.filter_eq_self.2]
  rintro ⟨x, c⟩ h
  rcases mark_mrg ha hb h with h | h | h <;> simp [h]
theorem pick_both {a b : List Int} (ha : Up a) (hb : Up b) : pick [3] (mrg a b) = com a b :=
  up_ext (up_pick _ ha hb) (up_com ha b) fun x => by
    rw [mem_pick, mem_com]
    constructor
    · rintro ⟨c, hc, h⟩
      obtain rfl := List.mem_singleton.1 hc
      rcases (mem_mrg ha hb).1 h with h | h | h
      · cases h.2.2
      · cases h.2.2
      · exact ⟨h.1, h.2.1⟩
    · rintro ⟨h1, h2⟩
      exact ⟨3, by simp, (mem_mrg ha hb).2 (by simp [h1, h2])⟩
theorem pick_first {a : List Int} {n : Int} (ha : Up a) : pick [1] (mrg a [n]) = dif a n :=
  up_ext (up_pick _ ha (up_one n)) (up_dif ha n) fun x => by
    rw [mem_pick, mem_dif]
    constructor
    · rintro ⟨c, hc, h⟩
      obtain rfl := List.mem_singleton.1 hc
      rcases (mem_mrg ha (up_one n)).1 h with h | h | h
      · exact ⟨h.1, by simpa using h.2.1⟩
      · cases h.2.2
      · cases h.2.2
    · rintro ⟨h1, h2⟩
      exact ⟨1, by simp, (mem_mrg ha (up_one n)).2 (by simp [h1, h2])⟩
theorem length_com (a b : List Int) : (com a b).length ≤ a.length := List.length_filter_le _ _
theorem length_dif (a : List Int) (n : Int) : (dif a n).length ≤ a.length := List.length_filter_le _ _
theorem dif_ins {s : List Int} {n : Int} (h : Up s) : dif (ins n s) n = dif s n :=
  up_ext (up_dif (up_ins h) n) (up_dif h n) fun x => by
    rw [mem_dif, mem_dif, mem_ins]
    constructor
    · rintro ⟨rfl | h1, h2⟩
      · exact absurd rfl h2
      · exact ⟨h1, h2⟩
    · rintro ⟨h1, h2⟩; exact ⟨.inr h1, h2⟩
theorem isS_dif {s : List Int} {n : Int} (h : isS s = true) : isS (dif s n) = true := by
  rw [isS_iff] at h ⊢
  have := length_dif s n
  exact ⟨up_dif h.1 n, by omega⟩

/-- What the calls answer. -/
def withE (s : List Int) (n : Int) : Int := if isS s = true then (if 16 < (ins n s).length then 2 else 0) else 1
def withV (s : List Int) (n : Int) : List Int := if withE s n = 0 then ins n s else []
def withoutE (s : List Int) : Int := if isS s = true then 0 else 1
def withoutV (s : List Int) (n : Int) : List Int := if isS s = true then dif s n else []
def bothE (a b : List Int) : Int := if isS a = true ∧ isS b = true then (if 16 < (uni a b).length then 2 else 0) else 1
def bothV (a b : List Int) : List Int := if bothE a b = 0 then uni a b else []
def commonE (a b : List Int) : Int := if isS a = true ∧ isS b = true then 0 else 1
def commonV (a b : List Int) : List Int := if commonE a b = 0 then com a b else []
theorem isS_one (n : Int) : isS [n] = true := isS_ok (up_one n) (by simp)
theorem withE_both (s : List Int) (n : Int) : bothE s [n] = withE s n := by simp only [bothE, withE, isS_one, uni_one, and_true]; rfl
theorem withV_both (s : List Int) (n : Int) : bothV s [n] = withV s n := by simp [bothV, withV, withE_both, uni_one]
end Go.Proofs.Ytkghkioghkapcaa
