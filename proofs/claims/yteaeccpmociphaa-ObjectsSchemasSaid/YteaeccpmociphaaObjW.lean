/-
  Layer 7: rows of one's own whose elements lie apart from a block that is to be written later.
-/
import Derived.Test.YteaeccpmociphaaObjS
namespace Go.Proofs.Yteaeccpmociphaa
open Go.RowKit Go.Sort

theorem size_box (w : World) (o : Obj) : (w.alloc o).heap.size = w.heap.size + 1 := by simp
/-- As 'OwnX', the row behind C, its elements apart from the block X. -/
def OwnE {α : Type} (Q : Elem α) (w : World) (B X C : Nat) (e : TypeId) (sz : Nat) (v : Value) (l : List α) : Prop :=
  ∃ xss : List (List Value), w.ownsRow C e sz v l.length xss.flatten ∧ xss.length = l.length ∧ ∀ (i : Nat) x y, xss[i]? = some x → l[i]? = some y → Q w (fun k => (Sf B w k ∧ k ≠ X) ∧ v.ownBlock ≠ some k) x y
section
variable {α : Type} {Q : Elem α} {w w' : World} {B X C : Nat} {e : TypeId} {sz : Nat} {v : Value} {l : List α}
theorem OwnE.nil (Q : Elem α) (w : World) (B X C : Nat) (e : TypeId) (sz : Nat) : OwnE Q w B X C e sz (.slice none 0 0) [] := ⟨[], World.ownsRow_nil _ _ _ _, rfl, fun i x y h => by simp at h⟩
theorem OwnE.form (h : OwnE Q w B X C e sz v l) : ∃ a cap, v = .slice a l.length cap ∧ l.length ≤ cap ∧ cap ≤ maxLen := by
  obtain ⟨xss, ⟨_, ⟨rfl, h0⟩ | ⟨g, cap, cur, rfl, _, _, h1, h2, _⟩⟩, _⟩ := h
  · exact ⟨none, 0, by rw [h0], by omega, by unfold maxLen; omega⟩
  · exact ⟨_, cap, rfl, h1, h2⟩
theorem OwnE.block (h : OwnE Q w B X C e sz v l) {g : Nat} (hg : v.ownBlock = some g) : Sf C w g := by
  obtain ⟨xss, ⟨_, ⟨rfl, h0⟩ | ⟨g', cap, cur, rfl, hb, hc, h1, h2, _⟩⟩, _⟩ := h
  · cases hg
  · cases hg
    exact ⟨hb, _, _, hc⟩
theorem OwnE.keep (h : OwnE Q w B X C e sz v l) (hQ : Stays Q sz) {S : Nat → Prop} (hk : Keeps S w w') (hs : ∀ k, Sf B w k → k ≠ X → S k) (ho : ∀ b, v.ownBlock = some b → S b) : OwnE Q w' B X C e sz v l := by
  obtain ⟨xss, h1, h2, h3⟩ := h
  refine ⟨xss, ?_, h2, fun i x y hx hy => hQ.keep (h3 i x y hx hy) (fun k hk' => ⟨⟨hk'.1.1.keep hk (hs k hk'.1.1 hk'.1.2), hk'.1.2⟩, hk'.2⟩) (hk.mono fun k hk' => hs k hk'.1.1 hk'.1.2)⟩
  rcases h1 with ⟨hl, h | ⟨g, cap, cur, rfl, h2, h3, h4⟩⟩
  · exact ⟨hl, .inl h⟩
  · exact ⟨hl, .inr ⟨g, cap, cur, rfl, h2, hk.row h3 (ho g rfl), h4⟩⟩
theorem OwnE.below (h : OwnE Q w B X C e sz v l) (hQ : Stays Q sz) (hb : Below w.heap.size w w') : OwnE Q w' B X C e sz v l :=
  h.keep hQ (Keeps.of_below hb (S := (· < w.heap.size)) fun _ h => h) (fun _ h _ => h.lt) fun _ hg => (h.block hg).lt
/-- It reads as a list, apart from X. -/
theorem OwnE.lst (h : OwnE Q w B X C e sz v l) (hQ : Stays Q sz) (hB : B ≤ C) (hX : X < C) : Lst w (fun k => Sf B w k ∧ k ≠ X) (Q w (fun k => Sf B w k ∧ k ≠ X)) sz v l := by
  obtain ⟨a, cap, rfl, hc1, hc2⟩ := h.form
  have hb := fun g hg => h.block (g := g) hg
  obtain ⟨xss, h1, h2, h3⟩ := h
  have hP : ∀ (i : Nat) x y, xss[i]? = some x → l[i]? = some y → Q w (fun k => Sf B w k ∧ k ≠ X) x y := fun i x y hx hy => hQ.keep (h3 i x y hx hy) (fun k hk => hk.1) Keeps.refl
  have hsz : ∀ x ∈ xss, x.length = sz := by
    intro x hx
    obtain ⟨i, hi, rfl⟩ := List.mem_iff_getElem.1 hx
    exact hQ.size (hP i _ l[i] (List.getElem?_eq_getElem hi) (List.getElem?_eq_getElem (by omega)))
  refine ⟨a, cap, xss, rfl, hc1, hc2, ?_, h2, hP⟩
  rcases h1 with ⟨hl, ⟨he, h0⟩ | ⟨g, cap', cur, he, hg1, hg2, hg3, hg4, hg5, hg6⟩⟩
  · exact .inl (List.eq_nil_of_length_eq_zero (by omega))
  · cases he
    refine .inr ⟨g, 0, rfl, ⟨(hb g rfl).mono hB, by omega⟩, fun i x hx j u hu => ?_⟩
    obtain ⟨hil, rfl⟩ := List.getElem?_eq_some_iff.1 hx
    obtain ⟨hf1, hf2⟩ := flat_at hsz
    have h4 := hf2 i
    rw [List.getElem?_eq_getElem hil, Option.getD_some] at h4
    have hj : j < sz := by have := (List.getElem?_eq_some_iff.1 hu).1; rw [hsz _ (List.getElem_mem hil)] at this; exact this
    rw [← h4, List.getElem?_take, if_pos hj, List.getElem?_drop, ← hg6, List.getElem?_take] at hu
    split at hu
    · rw [cell_of_row _ _ _ _ _ _ hg2, Nat.zero_add]
      simpa using hu
    · cases hu
/-- One more. -/
theorem OwnE.step {w1 : World} (h : OwnE Q w1 B X C e sz v l) (hQ : Stays Q sz) {Y : List Value} {y : α} (hx : Q w1 (fun k => (Sf B w1 k ∧ k ≠ X) ∧ v.ownBlock ≠ some k) Y y) :
    ∃ xs, (∀ o, (w1.alloc o).ownsRow C e sz v l.length xs) ∧ ∀ v3 w6 o, w6.ownsRow C e sz v3 (l.length + 1) (xs ++ Y) → (w1.alloc o).grownBy w6 v.ownBlock → (v3.ownBlock = v.ownBlock ∨ v3.ownBlock = some (w1.heap.size + 1)) →
      OwnE Q w6 B X C e sz v3 (l ++ [y]) ∧ Keeps (fun j => v.ownBlock ≠ some j) w1 w6 := by
  obtain ⟨xss, hown, hlen, hel⟩ := h
  refine ⟨xss.flatten, fun o => hown.alloc o, fun v3 w6 o ho hg hat => ?_⟩
  have hk0 : Keeps (fun j => v.ownBlock ≠ some j) w1 w6 := (Keeps.refl.alloc o).trans (Keeps.of_grown (S := fun j => v.ownBlock ≠ some j) hg fun j hj hn => hn hj)
  have hk : Keeps (fun k => (Sf B w1 k ∧ k ≠ X) ∧ v.ownBlock ≠ some k) w1 w6 := hk0.mono fun k hk => hk.2
  have hS : ∀ k, ((Sf B w1 k ∧ k ≠ X) ∧ v.ownBlock ≠ some k) → (Sf B w6 k ∧ k ≠ X) ∧ v3.ownBlock ≠ some k := fun k hs => ⟨⟨hs.1.1.keep hk hs, hs.1.2⟩, fun e => by
    rcases hat with h | h
    · exact hs.2 (h ▸ e)
    · rw [h] at e
      have := hs.1.1.lt
      injection e with e
      omega⟩
  refine ⟨⟨xss ++ [Y], by rw [List.length_append, List.length_singleton, List.flatten_append, List.flatten_singleton]; exact ho, by simp [hlen], fun i a b ha hb => ?_⟩, hk0⟩
  by_cases hi : i < l.length
  · rw [List.getElem?_append_left (by omega)] at ha
    rw [List.getElem?_append_left hi] at hb
    exact hQ.keep (hel i a b ha hb) hS hk
  · have hil := (List.getElem?_eq_some_iff.1 hb).1
    have : i = l.length := by simp at hil; omega
    subst this
    rw [List.getElem?_append_right (by omega)] at ha
    rw [List.getElem?_append_right (Nat.le_refl _)] at hb
    rw [hlen] at ha
    simp at ha hb
    subst ha hb
    exact hQ.keep hx hS hk
theorem OwnE.stepBelow {w1 w6 : World} (h : OwnE Q w1 B X C e sz v l) (hk : Keeps (fun j => v.ownBlock ≠ some j) w1 w6) (hC : C ≤ w1.heap.size) : Below C w1 w6 :=
  hk.below hC fun j hj e => by have := (h.block e).1; omega
end
/-- A box between is written: as if it had been so from the beginning. -/
theorem Opened.set {w w0 : World} {B p1 : Nat} {o : Objs} {vs vt : Value} (h : Opened w B o vs vt p1 w0) {q j : Nat} (h1 : w.heap.size < q) (h2 : q ≠ p1) (u : Value) : Opened w B o vs vt p1 (w0.setCell ⟨q, j, none⟩ u) := by
  have hs := h.size
  have hk : Keeps (· ≠ q) w0 (w0.setCell ⟨q, j, none⟩ u) := Keeps.refl.setCell (by simp) _
  exact ⟨hk.row h.box (by omega), hk.row h.res (fun e => h2 e.symm), below_put h.below (by simp; omega) u, ⟨hs.1, by simp [World.setCell]; exact hs.2⟩, h.obj, h.base⟩
theorem below_both {B : Nat} {w0 W : World} (h : Below B w0 W) {q j : Nat} {cs : Array Value} {t : TypeId} (u : Value) (h0 : w0.heap[q]? = some (.cells cs t (0, 0))) (hq : q < B) : Below B (w0.setCell ⟨q, j, none⟩ u) (W.setCell ⟨q, j, none⟩ u) := by
  refine ⟨h.os, h.tape, h.output, by simp [World.setCell]; exact h.size, fun k hk => ?_⟩
  by_cases e : k = q
  · subst e
    rw [heap_setCell_same _ k j _ _ _ h0, heap_setCell_same _ k j _ _ _ ((h.block k hk).trans h0)]
  · rw [Below.heap_setCell _ _ _ _ (by simpa using e), Below.heap_setCell _ _ _ _ (by simpa using e)]
    exact h.block k hk
end Go.Proofs.Yteaeccpmociphaa
