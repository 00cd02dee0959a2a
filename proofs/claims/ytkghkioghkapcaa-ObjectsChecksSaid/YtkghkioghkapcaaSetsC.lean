/-
  Sets: two rows merged: by contract.
-/
import Derived.Test.YtkghkioghkapcaaSetsB
import Derived.Deep.Onto
namespace Go.Proofs.Ytkghkioghkapcaa
open Go.RowKit

/-- A row of the call's own stands behind what leaves all older blocks alone. -/
theorem own_over {w w' : World} {base : Nat} {e : TypeId} {size : Nat} {v : Value} {n : Nat} {xs : List Value} (h : w.ownsRow base e size v n xs) (hb : Below w.heap.size w w') : w'.ownsRow base e size v n xs := by
  rcases h with ⟨hl, h | ⟨g, cap, cur, h1, h2, h3, h4⟩⟩
  · exact ⟨hl, .inl h⟩
  · exact ⟨hl, .inr ⟨g, cap, cur, h1, h2, (hb.block g (lt_of_some h3)).trans h3, h4⟩⟩
/-- Places as cells. -/
def pcs (ps : List (Int × Nat)) : List Value := ps.flatMap pcell
theorem pcs_snoc (ps : List (Int × Nat)) (f : Int × Nat) : pcs (ps ++ [f]) = pcs ps ++ pcell f := by simp [pcs]
theorem length_pcs (ps : List (Int × Nat)) : (pcs ps).length = ps.length * 2 := by
  induction ps with
  | nil => rfl
  | cons p r ih => simp only [pcs, List.flatMap_cons, List.length_append, List.length_cons] at *; rw [ih]; simp [pcell]; omega
/-- A struct is stored into the block that was made last. -/
theorem wpList_store_new {P : Program} {ops : Array Oper} {rest : List Oper} {op : Oper} {a : Act} {Q : Exit → Act → World → Prop} (w0 : World) (hgd : op.guard = none) (ty : TypeId) (x y : Operand) (ho : op.op = .store ty x y)
    (T : TypeId) (c c' : Array Value) (n : Nat) (hn : w0.heap.size = n) (hx : a.eval x = .pointer (some ⟨n, 0, none⟩)) (hy : a.eval y = .agg c')
    (hi : (P.info? ty).map (·.size) = some c'.size) (hs : c.size = c'.size) (h1 : c'.all (·.oneCell') = true)
    (h : wpList P ops Q rest (a.put op.dst undef) (w0.alloc (.cells c' T))) : wpList P ops Q (op :: rest) a (w0.alloc (.cells c T)) := by
  subst hn
  have e := setRow_alloc w0 c c' T
  rw [← e] at h
  exact wpList_store_box hgd ty x y ho w0.heap.size T c c' hx hy (heap_alloc_new w0 _) hi hs h1 h
def lenV : Value → Nat
  | .slice _ n _ => n
  | _ => 0
theorem own_len {w : World} {base : Nat} {e : TypeId} {size : Nat} {v : Value} {n : Nat} {xs : List Value} (h : w.ownsRow base e size v n xs) : ∃ a cap, v = .slice a n cap := by
  rcases h.2 with ⟨rfl, rfl⟩ | ⟨g, cap, cur, rfl, _⟩
  · exact ⟨none, 0, rfl⟩
  · exact ⟨_, cap, rfl⟩
theorem cells_fresh (w : World) (cs : List Value) (t : TypeId) : ∀ j u, cs[j]? = some u → (w.alloc (.cells cs.toArray t)).cell? ((⟨w.heap.size, 0, none⟩ : Addr).add j) = some u := by
  intro j u hu
  unfold Addr.add
  split
  · rename_i hz
    subst hz
    rw [cell_of_row _ _ _ _ _ _ (heap_alloc_new w _)]
    simpa using hu
  · rw [cell_of_row _ _ _ _ _ _ (heap_alloc_new w _)]
    simpa using hu
theorem ones_two (x y : Int) : ∀ u ∈ [Value.int .i64 x, Value.int .u64 y], u.oneCell' = true := by
  intro u hu
  simp at hu
  rcases hu with rfl | rfl <;> rfl
theorem own_kept {w w' : World} {base : Nat} {e : TypeId} {size : Nat} {v : Value} {n : Nat} {xs : List Value} (h : w.ownsRow base e size v n xs) (hk : ∀ k, base ≤ k → w'.heap[k]? = w.heap[k]?) : w'.ownsRow base e size v n xs := by
  rcases h with ⟨hl, h | ⟨g, cap, cur, h1, h2, h3, h4⟩⟩
  · exact ⟨hl, .inl h⟩
  · exact ⟨hl, .inr ⟨g, cap, cur, h1, h2, (hk g h2).trans h3, h4⟩⟩
/-- How far two rows are merged. -/
def MrgAt (xs ys : List Int) (p q : Nat) (acc : List (Int × Nat)) : Prop :=
  acc ++ mrg (xs.drop p) (ys.drop q) = mrg xs ys ∧ p ≤ xs.length ∧ q ≤ ys.length ∧ acc.length ≤ p + q
theorem mrgAt_zero (xs ys : List Int) : MrgAt xs ys 0 0 [] := ⟨by simp, Nat.zero_le _, Nat.zero_le _, Nat.le_refl _⟩
theorem mrgAt_end {xs ys : List Int} {p q : Nat} {acc : List (Int × Nat)} (h : MrgAt xs ys p q acc) (h0 : (lst (xs.drop p) (ys.drop q)).2 = 0) : mrg xs ys = acc := by
  rw [← h.1, mrg_end h0, List.append_nil]
theorem drop_some {xs : List Int} {p : Nat} (h : xs.drop p ≠ []) : p + 1 ≤ xs.length := by
  rcases Nat.lt_or_ge p xs.length with hlt | hge
  · exact hlt
  · exact absurd (List.drop_eq_nil_of_le hge) h
theorem mrgAt_one {xs ys : List Int} {p q : Nat} {acc : List (Int × Nat)} {f : Int × Nat} (h : MrgAt xs ys p q acc) (hf : f = lst (xs.drop p) (ys.drop q)) (h1 : f.2 = 1) : MrgAt xs ys (p + 1) q (acc ++ [f]) := by
  rw [hf] at h1
  obtain ⟨hn, hm⟩ := mrg_one h1
  have := drop_some hn
  have h0 := h.1
  rw [hm, List.drop_drop] at h0
  exact ⟨by rw [← h0, hf]; simp, by omega, h.2.2.1, by have := h.2.2.2; simp; omega⟩
theorem mrgAt_two {xs ys : List Int} {p q : Nat} {acc : List (Int × Nat)} {f : Int × Nat} (h : MrgAt xs ys p q acc) (hf : f = lst (xs.drop p) (ys.drop q)) (h1 : f.2 = 2) : MrgAt xs ys p (q + 1) (acc ++ [f]) := by
  rw [hf] at h1
  obtain ⟨hn, hm⟩ := mrg_two h1
  have := drop_some hn
  have h0 := h.1
  rw [hm, List.drop_drop] at h0
  exact ⟨by rw [← h0, hf]; simp, h.2.1, by omega, by have := h.2.2.2; simp; omega⟩
theorem mrgAt_three {xs ys : List Int} {p q : Nat} {acc : List (Int × Nat)} {f : Int × Nat} (h : MrgAt xs ys p q acc) (hf : f = lst (xs.drop p) (ys.drop q)) (h1 : f.2 = 3) : MrgAt xs ys (p + 1) (q + 1) (acc ++ [f]) := by
  rw [hf] at h1
  obtain ⟨hn, hn2, hm⟩ := mrg_three h1
  have := drop_some hn
  have := drop_some hn2
  have h0 := h.1
  rw [hm, List.drop_drop, List.drop_drop] at h0
  exact ⟨by rw [← h0, hf]; simp, by omega, by omega, by have := h.2.2.2; simp; omega⟩

end Go.Proofs.Ytkghkioghkapcaa
