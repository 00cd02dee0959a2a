/-
  The document's answer for layer 1, by contract: Low, Of, Number, Int, Text.
-/
import Derived.Test.YtpepmjkkckgkkaaCodecA
import Derived.Lib.AppendStr
namespace Go.Proofs.Ytpepmjkkckgkkaa
open Go.RowKit

theorem cell_new (w : World) (v : Value) (t : TypeId) : ∀ j u, [v][j]? = some u → (w.alloc (.cells #[v] t)).cell? ((⟨w.heap.size, 0, none⟩ : Addr).add j) = some u := by
  intro j u h
  obtain ⟨hj, rfl⟩ := List.getElem?_eq_some_iff.1 h
  simp at hj
  subst hj
  simp [Addr.add, cell_of_row _ _ _ _ _ _ (heap_alloc_new w (.cells #[v] t))]

theorem ediv_step (v : Int) (k : Nat) : v / 2 ^ (8 * k) / 256 = v / 2 ^ (8 * (k + 1)) := by
  rw [Int.ediv_ediv_of_nonneg (Int.pow_nonneg (by omega))]
  congr 1
  rw [Nat.mul_add, Int.pow_add]; rfl

theorem le_drop_step (bs : List UInt8) (k : Nat) (h : k < bs.length) : le (bs.drop k) = bs[k].toNat + 256 * le (bs.drop (k + 1)) := by
  rw [List.drop_eq_getElem_cons h]; rfl

theorem le_drop_lt (bs : List UInt8) (k : Nat) (h : bs.length ≤ 8) : (le (bs.drop k) : Int) < 18446744073709551616 := by
  have h1 := le_lt (bs.drop k)
  have h2 : 256 ^ (bs.drop k).length ≤ 256 ^ 8 := Nat.pow_le_pow_right (by omega) (by simp; omega)
  rw [show (256 : Nat) ^ 8 = 18446744073709551616 from by decide] at h2
  have h3 := Nat.lt_of_lt_of_le h1 h2
  omega

/-- What a row of the call's own reads as. -/
theorem Rd.own {w : World} {base : Nat} {e : TypeId} {v : Value} {n : Nat} {xs : List Value} (h : w.ownsRow base e 1 v n xs) : ∃ a cap, v = .slice a n cap ∧ Rd w w.heap.size a xs ∧ xs.length = n := by
  have hl : xs.length = n := by have := h.1; omega
  rcases h.2 with ⟨rfl, rfl⟩ | ⟨g, cap, cur, rfl, hb, hg, hc, hm, hs, ht⟩
  · exact ⟨none, 0, rfl, .inl (List.eq_nil_of_length_eq_zero hl), hl⟩
  · refine ⟨_, cap, rfl, .inr ⟨g, 0, rfl, (h.lt g rfl).2, fun i hi => ?_⟩, hl⟩
    rw [cell_of_row w g (0 + i) cur e (0, 0) hg]
    subst ht
    simp at hi hs
    simp [Array.getElem?_eq_getElem (show i < cur.size by omega)]

end Go.Proofs.Ytpepmjkkckgkkaa
