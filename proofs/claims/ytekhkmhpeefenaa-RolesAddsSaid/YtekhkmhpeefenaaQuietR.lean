/-
  A region that draws its order, whose callees make new blocks and draw: walked once, at the class 'what lay lies as it lay'.
-/
import Derived.Test.YtekhkmhpeefenaaRolF
namespace Go.Proofs.Ytekhkmhpeefenaa
set_option linter.unusedVariables false
open Go.RowKit Go.Sort

/-- A world in which all that lay in w lies as it lay. -/
structure BelR (w : World) where
  W : World
  h : Below w.heap.size w W
instance (w : World) : Nonempty (BelR w) := ⟨⟨w, Below.refl _ _⟩⟩
theorem belR_drew (w : World) : Below w.heap.size w w.drew := ⟨rfl, rfl, rfl, Nat.le_refl _, fun _ _ => rfl⟩
theorem wp_region_quiet_belR {P : Program} {id : Nat} {Q : Exit → Act → World → Prop} {a : Act} {w : World} {l : List Oper} (hm : P.follows .mixedOrders = true) (hB : Region.lexB .any l.toArray = true)
    (h : wpQuiet P l.toArray (fun w' => ∃ p : BelR w, w' = p.W) (fun a' => ∀ w', (∃ p : BelR w, w' = p.W) → Q .normal a' w') l a) : (Code.region id l.toArray true).wp P Q a w :=
  wp_region_quiet (C := fun w' => ∃ p : BelR w, w' = p.W) hm hB ⟨⟨w.drew, belR_drew w⟩, rfl⟩ (by simpa using h)
theorem belR_call {P : Program} {f : FuncId} {args : Array Value} {w : World} {p : BelR w} {v : Value} (h : ∀ W, Below w.heap.size w W → Calls P f args W fun e w' => e = .returned v ∧ Below W.heap.size W w') :
    Calls P f args p.W fun e w'' => e = .returned v ∧ ∃ p : BelR w, w'' = p.W := (h p.W p.h).mono fun _ w'' ⟨he, hb⟩ => ⟨he, ⟨w'', Below.trans p.h (hb.mono p.h.size)⟩, rfl⟩
theorem cell_belR {w : World} {a : Addr} {v : Value} (h : w.cell? a = some v) (p : BelR w) : p.W.cell? a = some v := cell_on p.h h

/-! ### rows of one's own of nothing but texts, which are written over -/
def StrRow (w : World) (B : Nat) (e : TypeId) (sz : Nat) (v : Value) (n : Nat) : Prop := ∃ xs : List Value, w.ownsRow B e sz v n xs ∧ ∀ u ∈ xs, ∃ s, u = .string s
theorem StrRow.of_strs {w : World} {B : Nat} {e : TypeId} {v : Value} {l : List ByteArray} (h : OwnX strQ w B e 1 v l) : StrRow w B e 1 v l.length := by
  obtain ⟨xss, h1, h2, h3⟩ := h
  refine ⟨_, h1, fun u hu => ?_⟩
  obtain ⟨x, hx, hux⟩ := List.mem_flatten.1 hu
  obtain ⟨i, hi, rfl⟩ := List.mem_iff_getElem.1 hx
  have := h3 i _ (l[i]'(by omega)) (List.getElem?_eq_getElem hi) (List.getElem?_eq_getElem (by omega))
  rw [show xss[i] = _ from this] at hux
  simp at hux
  exact ⟨_, hux⟩
theorem StrRow.of_mems {w : World} {B : Nat} {e : TypeId} {v : Value} {l : List Mem} (h : OwnX memQ w B e 2 v l) : StrRow w B e 2 v l.length := by
  obtain ⟨xss, h1, h2, h3⟩ := h
  refine ⟨_, h1, fun u hu => ?_⟩
  obtain ⟨x, hx, hux⟩ := List.mem_flatten.1 hu
  obtain ⟨i, hi, rfl⟩ := List.mem_iff_getElem.1 hx
  have := h3 i _ (l[i]'(by omega)) (List.getElem?_eq_getElem hi) (List.getElem?_eq_getElem (by omega))
  rw [show xss[i] = _ from this] at hux
  simp at hux
  rcases hux with h | h <;> exact ⟨_, h⟩
theorem StrRow.form {w : World} {B : Nat} {e : TypeId} {sz n : Nat} {v : Value} (h : StrRow w B e sz v n) : ∃ a cap, v = .slice a n cap := by
  obtain ⟨xs, ⟨_, ⟨rfl, h0⟩ | ⟨g, cap, cur, rfl, _⟩⟩, _⟩ := h
  · exact ⟨none, 0, by rw [h0]⟩
  · exact ⟨_, cap, rfl⟩
theorem StrRow.at {w : World} {B : Nat} {e : TypeId} {sz n cap o : Nat} {a : Option Addr} (h : StrRow w B e sz (.slice a n cap) n) (ho : o < n * sz) : ∃ g s, a = some ⟨g, 0, none⟩ ∧ B ≤ g ∧ w.cell? ⟨g, o, none⟩ = some (.string s) ∧ w.frozen? ⟨g, o, none⟩ = false := by
  obtain ⟨xs, hown, hs⟩ := h
  have hn : 0 < n := by rcases Nat.eq_zero_or_pos n with h | h; (subst h; simp at ho); exact h
  have hl : xs.length = n * sz := hown.1
  rcases hown.2 with ⟨he, h0⟩ | ⟨g, cap', cur, he, hb, _⟩
  · simp at he; omega
  · simp only [Value.slice.injEq, true_and] at he
    obtain ⟨rfl, rfl⟩ := he
    have hc := hown.cellAt o ho
    rw [List.getElem?_eq_getElem (by omega)] at hc
    obtain ⟨s, hs⟩ := hs _ (List.getElem_mem (show o < xs.length by omega))
    exact ⟨g, s, rfl, hb, by rw [hc, hs], hown.frozenAt o⟩
theorem StrRow.put {w : World} {B : Nat} {e : TypeId} {sz n cap g : Nat} (h : StrRow w B e sz (.slice (some ⟨g, 0, none⟩) n cap) n) (o : Nat) (s : ByteArray) : StrRow (w.setCell ⟨g, o, none⟩ (.string s)) B e sz (.slice (some ⟨g, 0, none⟩) n cap) n := by
  obtain ⟨xs, hown, hs⟩ := h
  refine ⟨_, (hown.stored o (.string s)).1, fun u hu => ?_⟩
  rcases List.mem_or_eq_of_mem_set hu with h | h
  · exact hs u h
  · exact ⟨s, h⟩
end Go.Proofs.Ytekhkmhpeefenaa
