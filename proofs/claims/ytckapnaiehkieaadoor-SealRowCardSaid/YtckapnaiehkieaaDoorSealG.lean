/-
  Frames found again, cut off, changed: plain mathematics.
-/
import Derived.Test.YtckapnaiehkieaaDoorSealF
namespace Go.Proofs.YtckapnaiehkieaaDoor

theorem le_sizeB {bs : List UInt8} (h : bs.length ≤ 1048576) : le (sizeB bs) = bs.length := le_lowB_of _ 4 (by omega)
theorem frame_parts (bs behind : List UInt8) : frameB bs ++ behind = sizeB bs ++ (lowB (sumB bs : Int) 4 ++ (bs ++ behind)) := by simp [frameB, headB]
theorem frame_take4 (bs behind : List UInt8) : (frameB bs ++ behind).take 4 = sizeB bs := by rw [frame_parts]; exact List.take_left' (length_sizeB _)
theorem frame_sum4 (bs behind : List UInt8) : ((frameB bs ++ behind).drop 4).take 4 = lowB (sumB bs : Int) 4 := by
  rw [frame_parts, List.drop_left' (length_sizeB _)]; exact List.take_left' (length_lowB _ _)
theorem frame_drop8 (bs behind : List UInt8) : (frameB bs ++ behind).drop 8 = bs ++ behind := by
  rw [frameB, List.append_assoc]; exact List.drop_left' (length_headB _)
theorem fst_frame {bs : List UInt8} (behind : List UInt8) (h : bs.length ≤ 1048576) : fstE (frameB bs ++ behind) = 0 ∧ fstN (frameB bs ++ behind) = 8 + bs.length ∧ fstV (frameB bs ++ behind) = bs := by
  have h4 := frame_take4 bs behind
  have hle := le_sizeB h
  have hbody : bodyB (frameB bs ++ behind) = bs := by
    unfold bodyB; rw [h4, hle, frame_drop8]; exact List.take_left' rfl
  have hl : (frameB bs ++ behind).length = 8 + bs.length + behind.length := by rw [List.length_append, length_frameB]
  have hE : fstE (frameB bs ++ behind) = 0 := by
    apply fst_ok
    · omega
    · rw [h4, hle]; omega
    · rw [h4, hle]; omega
    · rw [hbody, frame_sum4]; exact (le_lowB_of _ 4 (sumOf_lt _)).symm
  exact ⟨hE, by simp [fstN, hE, h4, hle], by simp [fstV, hE, hbody]⟩

theorem le_inj : ∀ {a b : List UInt8}, a.length = b.length → le a = le b → a = b := by
  intro a b hl h
  have h1 := lowB_le a
  have h2 := lowB_le b
  rw [hl, h] at h1
  exact h1.symm.trans h2

/-- One byte behind the length that is another one. -/
theorem fst_byte {bs : List UInt8} (h : bs.length ≤ 1048576) (i : Nat) (c : UInt8) (h4 : 4 ≤ i) (hi : i < (frameB bs).length) (hc : c ≠ (frameB bs)[i]) : fstE ((frameB bs).set i c) = 21 := by
  have hl := length_frameB bs
  have hp := frame_parts bs []
  rw [List.append_nil, List.append_nil] at hp
  have hle := le_sizeB h
  by_cases h8 : i < 8
  · have e1 : (frameB bs).set i c = sizeB bs ++ ((lowB (sumB bs : Int) 4).set (i - 4) c ++ bs) := by
      rw [hp, List.set_append_right _ _ (by simp; omega), List.set_append_left _ _ (by simp; omega), length_sizeB]
    have t4 : ((frameB bs).set i c).take 4 = sizeB bs := by rw [e1]; exact List.take_left' (length_sizeB _)
    have s4 : (((frameB bs).set i c).drop 4).take 4 = (lowB (sumB bs : Int) 4).set (i - 4) c := by
      rw [e1, List.drop_left' (length_sizeB _)]; exact List.take_left' (by simp)
    have d8 : ((frameB bs).set i c).drop 8 = bs := by
      rw [e1, ← List.append_assoc]; exact List.drop_left' (by simp)
    have hbody : bodyB ((frameB bs).set i c) = bs := by unfold bodyB; rw [t4, hle, d8]; exact List.take_length
    apply fst_bad
    · rw [List.length_set]; omega
    · rw [t4, hle]; omega
    · rw [t4, hle, List.length_set]; omega
    · rw [hbody, s4]
      intro e
      have e2 : le (lowB (sumB bs : Int) 4) = le ((lowB (sumB bs : Int) 4).set (i - 4) c) := (le_lowB_of _ 4 (sumOf_lt _)).trans e
      have e3 := le_inj (by simp) e2
      apply hc
      have hil : i - 4 < (lowB (sumB bs : Int) 4).length := by simp; omega
      have e4 : (lowB (sumB bs : Int) 4)[i - 4]? = some c := by
        rw [e3, List.getElem?_set_self hil]
      have e5 : (frameB bs)[i]? = (lowB (sumB bs : Int) 4)[i - 4]? := by
        rw [hp, List.getElem?_append_right (by simp; omega), List.getElem?_append_left (by simp; omega), length_sizeB]
      rw [e4, List.getElem?_eq_getElem hi] at e5
      exact (Option.some.inj e5).symm
  · have hj : i - 8 < bs.length := by omega
    have e1 : (frameB bs).set i c = headB bs ++ bs.set (i - 8) c := by
      rw [frameB, List.set_append_right _ _ (by simp; omega), length_headB]
    have t4 : ((frameB bs).set i c).take 4 = sizeB bs := by
      rw [e1, headB, List.append_assoc]; exact List.take_left' (length_sizeB _)
    have s4 : (((frameB bs).set i c).drop 4).take 4 = lowB (sumB bs : Int) 4 := by
      rw [e1, headB, List.append_assoc, List.drop_left' (length_sizeB _)]; exact List.take_left' (by simp)
    have d8 : ((frameB bs).set i c).drop 8 = bs.set (i - 8) c := by
      rw [e1]; exact List.drop_left' (by simp)
    have hbody : bodyB ((frameB bs).set i c) = bs.set (i - 8) c := by
      unfold bodyB; rw [t4, hle, d8]; exact List.take_of_length_le (by simp)
    apply fst_bad
    · rw [List.length_set]; omega
    · rw [t4, hle]; omega
    · rw [t4, hle, List.length_set]; omega
    · rw [hbody, s4, le_lowB_of (sumB bs) 4 (sumOf_lt _)]
      intro e
      have hs : sizeB (bs.set (i - 8) c) = sizeB bs := by simp [sizeB]
      unfold sumB at e
      rw [hs] at e
      generalize sizeB bs = sz at e
      have eb : bs = bs.take (i - 8) ++ bs[i - 8] :: bs.drop (i - 8 + 1) := by
        rw [← List.drop_eq_getElem_cons hj, List.take_append_drop]
      have ec : bs.set (i - 8) c = bs.take (i - 8) ++ c :: bs.drop (i - 8 + 1) := List.set_eq_take_append_cons_drop.trans (if_pos hj)
      rw [ec] at e
      conv at e => rhs; rw [eb]
      rw [← List.append_assoc, ← List.append_assoc] at e
      apply hc
      have e6 := sumOf_byte _ _ e
      rw [e6]
      have e5 : (frameB bs)[i]? = bs[i - 8]? := by
        rw [frameB, List.getElem?_append_right (by simp; omega), length_headB]
      rw [List.getElem?_eq_getElem hi, List.getElem?_eq_getElem hj] at e5
      exact (Option.some.inj e5).symm

/-- Frames, one behind the other. -/
def catB : List (List UInt8) → List UInt8
  | [] => []
  | b :: r => frameB b ++ catB r
theorem catB_append : ∀ a b : List (List UInt8), catB (a ++ b) = catB a ++ catB b
  | [], _ => rfl
  | x :: r, b => by simp [catB, catB_append r b]
theorem catB_snoc (a : List (List UInt8)) (b : List UInt8) : catB (a ++ [b]) = catB a ++ frameB b := by rw [catB_append]; simp [catB]
theorem length_catB : ∀ (l : List (List UInt8)) (_ : ∀ b ∈ l, b.length ≤ 1000), (catB l).length ≤ 1008 * l.length
  | [], _ => by simp [catB]
  | b :: r, h => by
    have h1 := h b (by simp)
    have h2 := length_catB r (fun x hx => h x (by simp [hx]))
    simp only [catB, List.length_append, length_frameB, List.length_cons]
    omega

theorem all_cat : ∀ (l : List (List UInt8)) (_ : ∀ b ∈ l, b.length ≤ 1000), allP (catB l) = (l, (catB l).length, 0)
  | [], _ => allP_nil
  | b :: r, h => by
    have hb := h b (by simp)
    have hr := all_cat r (fun x hx => h x (by simp [hx]))
    obtain ⟨h1, h2, h3⟩ := fst_frame (bs := b) (catB r) (by omega)
    have h0 : frameB b ++ catB r ≠ [] := by intro e; have := congrArg List.length e; rw [List.length_append, length_frameB] at this; simp at this
    rw [catB, allP_ok h0 h1, h2, h3]
    have hd : (frameB b ++ catB r).drop (8 + b.length) = catB r := List.drop_left' (length_frameB b)
    rw [hd, hr]
    simp [length_frameB]

/-- Frames that were cut off tell a beginning. -/
theorem all_cut : ∀ (l : List (List UInt8)) (c : Nat) (_ : ∀ b ∈ l, b.length ≤ 1000) (_ : c ≤ (catB l).length),
    ∃ k m, k ≤ l.length ∧ ((m = c ∧ allP ((catB l).take c) = (l.take k, m, 0)) ∨ (m < c ∧ allP ((catB l).take c) = (l.take k, m, 20)))
  | [], c, _, hc => ⟨0, 0, Nat.le_refl _, .inl ⟨by simp [catB] at hc; exact hc.symm, by simp [catB, allP_nil]⟩⟩
  | b :: r, c, h, hc => by
    have hb := h b (by simp)
    by_cases h0 : c = 0
    · subst h0
      exact ⟨0, 0, Nat.zero_le _, .inl ⟨rfl, by simp [allP_nil]⟩⟩
    · by_cases hlt : c < 8 + b.length
      · refine ⟨0, 0, Nat.zero_le _, .inr ⟨by omega, ?_⟩⟩
        have hP : (catB (b :: r)).take c = (frameB b).take c := by
          rw [catB, List.take_append_of_le_length (by rw [length_frameB]; omega)]
        have hl : ((frameB b).take c).length = c := by rw [List.length_take, length_frameB]; omega
        have hn : (frameB b).take c ≠ [] := by intro e; rw [e] at hl; simp at hl; omega
        have hE : fstE ((frameB b).take c) = 20 := by
          by_cases h8 : c < 8
          · exact fst_short (by omega)
          · have t4 : ((frameB b).take c).take 4 = sizeB b := by
              rw [List.take_take, Nat.min_eq_left (by omega)]
              have := frame_take4 b []
              rwa [List.append_nil] at this
            apply fst_end
            · omega
            · rw [t4, le_sizeB (by omega)]; omega
            · rw [t4, le_sizeB (by omega)]; omega
        rw [hP, allP_no hn (by rw [hE]; decide), hE]
        simp
      · have hr : ∀ x ∈ r, x.length ≤ 1000 := fun x hx => h x (by simp [hx])
        have hl2 : (catB (b :: r)).length = 8 + b.length + (catB r).length := by simp [catB, length_frameB]
        obtain ⟨k, m, hk, hkm⟩ := all_cut r (c - (8 + b.length)) hr (by omega)
        have hP : (catB (b :: r)).take c = frameB b ++ (catB r).take (c - (8 + b.length)) := by
          rw [catB, List.take_append, length_frameB, List.take_of_length_le (by rw [length_frameB]; omega)]
        obtain ⟨h1, h2, h3⟩ := fst_frame (bs := b) ((catB r).take (c - (8 + b.length))) (by omega)
        have hn0 : frameB b ++ (catB r).take (c - (8 + b.length)) ≠ [] := by intro e; have := congrArg List.length e; rw [List.length_append, length_frameB] at this; simp at this
        have hd : (frameB b ++ (catB r).take (c - (8 + b.length))).drop (8 + b.length) = (catB r).take (c - (8 + b.length)) := List.drop_left' (length_frameB b)
        refine ⟨k + 1, 8 + b.length + m, by simp; omega, ?_⟩
        rw [hP, allP_ok hn0 h1, h2, h3, hd]
        rcases hkm with ⟨hm, he⟩ | ⟨hm, he⟩
        · exact .inl ⟨by omega, by rw [he]; simp⟩
        · exact .inr ⟨by omega, by rw [he]; simp⟩
end Go.Proofs.YtckapnaiehkieaaDoor
