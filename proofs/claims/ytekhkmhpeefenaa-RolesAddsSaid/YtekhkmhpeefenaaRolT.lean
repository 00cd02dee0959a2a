/-
  Roles as mathematics: who joins; who leaves again.
-/
import Derived.Test.YtekhkmhpeefenaaRolQ
import Derived.Test.YtekhkmhpeefenaaLaw08a
namespace Go.Proofs.Ytekhkmhpeefenaa
set_option linter.unusedVariables false

theorem insBy_has {α : Type} {lt : α → α → Bool} {x y : α} : ∀ {l : List α}, y ∈ insBy lt x l ↔ y = x ∨ y ∈ l
  | [] => by simp [insBy]
  | z :: l => by
    unfold insBy
    have ih := insBy_has (lt := lt) (x := x) (y := y) (l := l)
    split
    · simp
    · rw [List.mem_cons, ih, List.mem_cons]
      constructor
      · rintro (h | h | h)
        · exact .inr (.inl h)
        · exact .inl h
        · exact .inr (.inr h)
      · rintro (h | h | h)
        · exact .inr (.inl h)
        · exact .inl h
        · exact .inr (.inr h)
theorem insBy_rises {α : Type} {lt : α → α → Bool} (tr : ∀ {a b c}, lt a b = true → lt b c = true → lt a c = true) {x : α} : ∀ {l : List α}, (l.Pairwise fun a b => lt a b = true) → (∀ y ∈ l, lt y x = !(lt x y)) → (insBy lt x l).Pairwise fun a b => lt a b = true
  | [], _, _ => by simp [insBy]
  | z :: l, h, hf => by
    obtain ⟨h1, h2⟩ := List.pairwise_cons.1 h
    have ih := insBy_rises (lt := lt) tr h2 fun y hy => hf y (List.mem_cons_of_mem _ hy)
    have hz := hf z (List.mem_cons_self ..)
    unfold insBy
    cases hl : lt x z with
    | true =>
      rw [if_pos rfl]
      refine List.pairwise_cons.2 ⟨fun y hy => ?_, h⟩
      rcases List.mem_cons.1 hy with rfl | hy
      · exact hl
      · exact tr hl (h1 y hy)
    | false =>
      rw [if_neg (by simp)]
      refine List.pairwise_cons.2 ⟨fun y hy => ?_, ih⟩
      rcases insBy_has.1 hy with rfl | hy
      · rw [hz, hl]; rfl
      · exact h1 y hy
theorem insBy_length {α : Type} {lt : α → α → Bool} {x : α} : ∀ {l : List α}, (insBy lt x l).length = l.length + 1
  | [] => rfl
  | z :: l => by
    unfold insBy
    split
    · simp
    · rw [List.length_cons, insBy_length, List.length_cons]
/-- A way through members with one more. -/
theorem way_more {ms ms' : List Mem} {a b : ByteArray} (hm : ∀ m ∈ ms', m = ⟨a, b⟩ ∨ m ∈ ms) {u v : ByteArray} (h : Way ms' u v) : Way ms u v ∨ (Way ms u a ∧ Way ms b v) := by
  induction h with
  | refl u => exact .inl (.refl u)
  | step hs _ ih =>
    rcases hm _ hs with e | e
    · cases e
      rcases ih with h | ⟨_, h⟩
      · exact .inr ⟨.refl _, h⟩
      · exact .inr ⟨.refl _, h⟩
    · rcases ih with h | ⟨h1, h2⟩
      · exact .inl (.step e h)
      · exact .inr ⟨.step e h1, h2⟩
theorem Way.mono {ms ms' : List Mem} (hm : ∀ m ∈ ms, m ∈ ms') {u v : ByteArray} (h : Way ms u v) : Way ms' u v := by
  induction h with
  | refl u => exact .refl u
  | step hs _ ih => exact .step (hm _ hs) ih
theorem joined_right {r : Rols} {a b : ByteArray} (h : RightR r) (ha : a ∈ r.names) (hb : b ∈ r.names) (hn : (⟨a, b⟩ : Mem) ∉ r.mems) (hw : ¬ Way r.mems b a) : RightR ⟨r.names, insBy ltM ⟨a, b⟩ r.mems⟩ where
  few := h.few
  names := h.names
  rise := h.rise
  ends m hm := by
    rcases insBy_has.1 hm with rfl | hm
    · exact ⟨ha, hb⟩
    · exact h.ends m hm
  mrise := insBy_rises (lt := ltM) ltM_trans h.mrise (lt_flip hn)
  noring := by
    rintro ⟨m, hm, hc⟩
    have hmm : ∀ m ∈ insBy ltM ⟨a, b⟩ r.mems, m = ⟨a, b⟩ ∨ m ∈ r.mems := fun m hm => insBy_has.1 hm
    rcases insBy_has.1 hm with rfl | hm
    · rcases way_more hmm hc with h1 | ⟨h1, _⟩
      · exact hw h1
      · exact hw h1
    · rcases way_more hmm hc with h1 | ⟨h1, h2⟩
      · exact h.noring ⟨m, hm, h1⟩
      · exact hw (h2.trans (.step (by rw [mem_eta]; exact hm) h1))
theorem memIx_at {x : Mem} : ∀ {l : List Mem} {k : Nat} (h : k < l.length), l[k] = x → (∀ i (hi : i < l.length), i < k → l[i] ≠ x) → memIx l x = k := fun {l k} h he hn =>
  idxI_at h (fun i hi hk => decide_eq_false fun e => hn i hi hk e.symm) (decide_eq_true he.symm)
theorem left_again {x : Mem} {l : List Mem} (hn : x ∉ l) : ∃ k : Nat, memIx (insBy ltM x l) x = k ∧ (insBy ltM x l).eraseIdx k = l := by
  have hp := posB_le ltM x l
  have he := insBy_posB (lt_flip hn)
  have hlen : (l.take (posB ltM x l)).length = posB ltM x l := by rw [List.length_take]; omega
  refine ⟨posB ltM x l, ?_, ?_⟩
  · rw [← he]
    refine memIx_at (by rw [List.length_append, List.length_append, hlen]; simp; omega) ?_ fun i hi hk e => ?_
    · rw [List.getElem_append_right (by omega)]
      simp [hlen]
    · rw [List.getElem_append_left (by omega)] at e
      exact hn (e ▸ List.mem_of_mem_take (List.getElem_mem _))
  · conv => lhs; arg 1; rw [← he]
    rw [List.eraseIdx_append_of_length_le (by omega), hlen, Nat.sub_self]
    simp
/-- What joins brings, in one word. -/
structure Joined (r R : Rols) (a b : ByteArray) : Prop where
  right : RightR R
  was : RightR r
  back : leaveF R a b = (r, 0)
  kept : ∀ o, isR r a o = true → isR R a o = true
  grown : ∀ o, isR r b o = true → isR R a o = true
  few : R.mems.length ≤ 3000
  here : a ∈ r.names ∧ b ∈ r.names
  names : R.names = r.names
  mems : R.mems = insBy ltM ⟨a, b⟩ r.mems
theorem joinF_yes {r : Rols} {a b : ByteArray} (h : (joinF r a b).2 = 0) : joinF r a b = (⟨r.names, insBy ltM ⟨a, b⟩ r.mems⟩, 0) ∧ Joined r ⟨r.names, insBy ltM ⟨a, b⟩ r.mems⟩ a b := by
  unfold joinF at h ⊢
  split at h
  · simp at h
  · rename_i h1
    rw [if_neg h1]
    split at h
    · simp at h
    · rename_i h2
      rw [if_neg h2]
      split at h
      · simp at h
      · rename_i h3
        rw [if_neg h3]
        split at h
        · simp at h
        · rename_i h4
          rw [if_neg h4]
          refine ⟨rfl, ?_⟩
          have g1 : RightR r := rightR_iff.1 (by simpa using h1)
          have g2 : a ∈ r.names ∧ b ∈ r.names := by
            have : (inB r.names a && inB r.names b) = true := by simpa using h2
            rw [Bool.and_eq_true, inB_iff, inB_iff] at this
            exact this
          have g3 : (⟨a, b⟩ : Mem) ∉ r.mems := fun h => h3 (memIn_iff.2 h)
          have g4 : ¬ Way r.mems b a := fun h => h4 (wayB_iff.2 h)
          have gr := joined_right g1 g2.1 g2.2 g3 g4
          have hmono : ∀ {u v}, Way r.mems u v → Way (insBy ltM ⟨a, b⟩ r.mems) u v := fun h => h.mono fun m hm => insBy_has.2 (.inr hm)
          refine ⟨gr, g1, ?_, fun o ho => ?_, fun o ho => ?_, ?_, g2, rfl, rfl⟩
          · obtain ⟨k, hk1, hk2⟩ := left_again g3
            unfold leaveF
            simp only
            rw [if_neg (by rw [rightR_iff.2 gr]; simp), hk1, if_neg (by omega)]
            simp only [Int.toNat_natCast, hk2]
          · unfold isR at ho ⊢
            simp only [Bool.and_eq_true, wayB_iff] at ho ⊢
            exact ⟨rightR_iff.2 gr, ho.2.1, hmono ho.2.2⟩
          · unfold isR at ho ⊢
            simp only [Bool.and_eq_true, wayB_iff] at ho ⊢
            exact ⟨rightR_iff.2 gr, inB_iff.2 g2.1, .step (insBy_has.2 (.inl rfl)) (hmono ho.2.2)⟩
          · have := mems_few gr.rows
            have := Nat.mul_le_mul gr.few gr.few
            omega
end Go.Proofs.Ytekhkmhpeefenaa
