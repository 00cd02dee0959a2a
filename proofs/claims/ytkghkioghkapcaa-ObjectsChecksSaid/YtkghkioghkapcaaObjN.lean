/-
  Layer 7: a row of one's own reads as a list.
-/
import Derived.Test.YtkghkioghkapcaaObjR
import Derived.Deep.DeepAppendWide
namespace Go.Proofs.Ytkghkioghkapcaa
open Go.RowKit

theorem Lst.own {α : Type} {w : World} {base : Nat} {e : TypeId} {sz : Nat} {v : Value} {n : Nat} {xs : List Value} {P : List Value → α → Prop} {l : List α} (h : w.ownsRow base e sz v n xs) (hl : l.length = n)
    (hP : ∀ (i : Nat) (hi : i < l.length), P ((xs.drop (i * sz)).take sz) l[i]) : Lst w (fun b => base ≤ b ∧ b < w.heap.size) P sz v l := by
  obtain ⟨hx, h⟩ := h
  have hpp : ∀ (i : Nat) x y, ((List.range n).map fun i => (xs.drop (i * sz)).take sz)[i]? = some x → l[i]? = some y → P x y := by
    intro i x y hi hy
    obtain ⟨hil, rfl⟩ := List.getElem?_eq_some_iff.1 hy
    rw [List.getElem?_map, List.getElem?_range (by omega)] at hi
    simp only [Option.map_some, Option.some.injEq] at hi
    subst hi
    exact hP i hil
  rcases h with ⟨rfl, rfl⟩ | ⟨g, cap, cur, rfl, hb, hg, hc, hm, hz, ht⟩
  · refine ⟨none, 0, [], by rw [hl], by omega, by unfold maxLen; omega, .inl rfl, by simp [hl], fun i x y hi => by simp at hi⟩
  · refine ⟨_, cap, _, by rw [hl], by omega, hm, .inr ⟨g, 0, rfl, ⟨hb, (Array.getElem?_eq_some_iff.1 hg).1⟩, ?_⟩, by simp [hl], hpp⟩
    intro i x hi j u hj
    have hin : i < n := by
      have := (List.getElem?_eq_some_iff.1 hi).1
      simpa using this
    rw [List.getElem?_map, List.getElem?_range hin] at hi
    simp only [Option.map_some, Option.some.injEq] at hi
    subst hi
    rw [List.getElem?_take] at hj
    split at hj
    · rename_i hjs
      rw [List.getElem?_drop, ← ht, List.getElem?_take] at hj
      split at hj
      · rw [cell_of_row _ _ _ _ _ _ hg]
        simpa using hj
      · cases hj
    · cases hj

/-- What a list's cells are, one behind the other; each element has its right number of cells. -/
theorem Lst.cells {α : Type} {w : World} {S : Nat → Prop} {P : List Value → α → Prop} {sz : Nat} {a : Option Addr} {n cap : Nat} {l : List α} (h : Lst w S P sz (.slice a n cap) l) (hP : ∀ x y, y ∈ l → P x y → x.length = sz) :
    ∃ xss : List (List Value), xss.length = n ∧ (∀ (i : Nat) x y, xss[i]? = some x → l[i]? = some y → P x y) ∧ (∀ x ∈ xss, x.length = sz) ∧ RdT w S a sz xss := by
  obtain ⟨a', cap', xss, h1, h2, h3, h4, h5, h6⟩ := h
  simp only [Value.slice.injEq] at h1
  obtain ⟨rfl, rfl, rfl⟩ := h1
  refine ⟨xss, h5, h6, ?_, h4⟩
  intro x hx
  obtain ⟨i, hi, rfl⟩ := List.mem_iff_getElem.1 hx
  have hl : i < l.length := by omega
  exact hP _ l[i] (List.getElem_mem hl) (h6 i _ _ (List.getElem?_eq_getElem hi) (List.getElem?_eq_getElem hl))

theorem flat_at {sz : Nat} : ∀ {xss : List (List Value)}, (∀ x ∈ xss, x.length = sz) → xss.flatten.length = xss.length * sz ∧ ∀ (i : Nat), (xss.flatten.drop (i * sz)).take sz = (xss[i]?).getD []
  | [], _ => ⟨by simp, fun i => by simp⟩
  | x :: xss, h => by
    obtain ⟨h1, h2⟩ := flat_at (xss := xss) fun y hy => h y (List.mem_cons_of_mem _ hy)
    have hx := h x (List.mem_cons_self ..)
    refine ⟨by rw [List.flatten_cons, List.length_append, h1, hx, List.length_cons, Nat.succ_mul, Nat.add_comm], ?_⟩
    intro i
    rw [List.flatten_cons]
    cases i with
    | zero => subst hx; simp
    | succ i =>
      rw [List.drop_append, List.drop_of_length_le (by rw [hx, Nat.succ_mul]; omega), List.nil_append, hx, show (i + 1) * sz - sz = i * sz by rw [Nat.succ_mul]; omega, h2 i]
      rfl

theorem RdT.flat {w : World} {S : Nat → Prop} {a : Option Addr} {sz : Nat} {xss : List (List Value)} (h : RdT w S a sz xss) (hx : ∀ x ∈ xss, x.length = sz) (hn : xss ≠ []) : ∃ ad, a = some ad ∧ ∀ (j : Nat) u, xss.flatten[j]? = some u → w.cell? (ad.add j) = some u := by
  rcases h with h | ⟨b, o, rfl, hb, hc⟩
  · exact absurd h hn
  · refine ⟨_, rfl, ?_⟩
    intro j u hj
    obtain ⟨h1, h2⟩ := flat_at hx
    by_cases hs : sz = 0
    · subst hs
      have := (List.getElem?_eq_some_iff.1 hj).1
      omega
    have hp : 0 < sz := by omega
    have hdm := Nat.div_add_mod j sz
    have hlt := Nat.mod_lt j hp
    have h3 := h2 (j / sz)
    have hjl := (List.getElem?_eq_some_iff.1 hj).1
    have hi : j / sz < xss.length := by
      rw [Nat.div_lt_iff_lt_mul hp]; omega
    rw [List.getElem?_eq_getElem hi, Option.getD_some] at h3
    have h4 : (xss[j / sz])[j % sz]? = some u := by
      rw [← h3, List.getElem?_take, if_pos hlt, List.getElem?_drop, Nat.mul_comm, hdm]
      exact hj
    have h5 := hc _ _ (List.getElem?_eq_getElem hi) _ _ h4
    have e : o + j / sz * sz + j % sz = o + j := by rw [Nat.add_assoc, Nat.mul_comm (j / sz) sz, hdm]
    rw [e] at h5
    by_cases hj0 : j = 0
    · subst hj0; simpa [Addr.add] using h5
    · simpa [Addr.add, hj0] using h5

/-- 'append(nil, src...)', src whatever reads as a list: a list of one's own, with the same elements. -/
theorem wpList_append_lst {P : Program} {w : World} {ops : Array Oper} {rest : List Oper} {o : Oper} {a : Act} {Q : Exit → Act → World → Prop} (hgd : o.guard = none) (s x : Operand) (t : TypeId)
    (ho : o.op = .call { callee := .builtin .append, args := #[s, x], argTypes := #[t, t] })
    (e : TypeId) (i : TypeInfo) (z : Value) (sz bytes : Nat) (ht : P.underlying t = some (.slice e)) (hi : P.info? e = some i) (hz : i.zero = some z)
    (hsize : i.size = sz) (hby : i.bytes = bytes) (hzs : z.cells.size = sz) (hsz : 0 < sz) (hs : a.eval s = .slice none 0 0)
    {α : Type} {S : Nat → Prop} {R : List Value → α → Prop} {A : Option Addr} {m c : Nat} {l : List α} (hx : a.eval x = .slice A m c) (hL : Lst w S R sz (.slice A m c) l)
    (hR : ∀ x y, y ∈ l → R x y → x.length = sz ∧ ∀ u ∈ x, u.oneCell' = true) (hbytes : (m + m / 4 + 192) * bytes ≤ 281474976710656)
    (h : ∀ v' w', Lst w' (fun b => w.heap.size ≤ b ∧ b < w'.heap.size) R sz v' l → Below w.heap.size w w' → wpList P ops Q rest (a.put o.dst v') w') : wpList P ops Q (o :: rest) a w := by
  obtain ⟨hlm, hmc, hcm⟩ := hL.len
  obtain ⟨xss, hn, hxl, hxs, hrd⟩ := hL.cells fun x y hy hp => (hR x y hy hp).1
  obtain ⟨hf1, hf2⟩ := flat_at hxs
  have h1 : ∀ u ∈ xss.flatten, u.oneCell' = true := by
    intro u hu
    obtain ⟨x, hx', hux⟩ := List.mem_flatten.1 hu
    obtain ⟨k, hk, rfl⟩ := List.mem_iff_getElem.1 hx'
    have hkl : k < l.length := by omega
    exact (hR _ l[k] (List.getElem_mem hkl) (hxl k _ _ (List.getElem?_eq_getElem hk) (List.getElem?_eq_getElem hkl))).2 u hux
  have empty : m = 0 → ∀ w' : World, Lst w' (fun b => w.heap.size ≤ b ∧ b < w'.heap.size) R sz (.slice none 0 0) l := fun h0 w' => by
    obtain rfl : l = [] := List.eq_nil_of_length_eq_zero (by omega)
    exact ⟨none, 0, [], rfl, Nat.le_refl _, by unfold maxLen; omega, .inl rfl, rfl, fun i x y hi => by simp at hi⟩
  cases A with
  | none =>
    have h0 : m = 0 := by
      rcases hrd with h | ⟨b, o, ha, _⟩
      · subst h; simpa using hn.symm
      · cases ha
    subst h0
    have hrun : (Builtin.append_ #[t, t] o.type #[.slice none 0 0, .slice none 0 c]).run P w = .ok (.slice none 0 0) w := by
      simp [Builtin.append_, run_underlying ht, sizeOf, typeInfo, hi, Builtin.lenOf, Builtin.firstCells]
    refine wpList_plain hgd fun K hK => ?_
    unfold Oper.wp
    simp [execOp, ho, resolve, invoke, builtin, hs, hx, hrun, Result.andThen]
    exact hK _ _ (h _ _ (empty rfl w) ⟨rfl, rfl, rfl, Nat.le_refl _, fun _ _ => rfl⟩)
  | some ad =>
    refine wpList_append_own_wide w hgd s x t ho w.heap.size e i z sz bytes ht hi hz hsize hby hzs hsz (.slice none 0 0) 0 [] hs ⟨by simp, .inl ⟨rfl, rfl⟩⟩ ad m c xss.flatten hx (by rw [hf1, hn]) ?_ h1 (by omega) (by simpa using hbytes) (Nat.le_refl _) ?_
    · intro j u hj
      by_cases hne : xss = []
      · subst hne; simp at hj
      · obtain ⟨ad', he, hat⟩ := hrd.flat hxs hne
        cases he
        exact hat j u hj
    · intro v' w' hown hg _
      rw [List.nil_append, Nat.zero_add] at hown
      refine h v' w' (Lst.own hown hlm fun k hk => ?_) ⟨hg.os, hg.tape, hg.output, hg.size, fun k hk => hg.block k hk (by simp [Value.ownBlock])⟩
      have hkx : k < xss.length := by omega
      rw [hf2 k, List.getElem?_eq_getElem hkx, Option.getD_some]
      exact hxl k _ _ (List.getElem?_eq_getElem hkx) (List.getElem?_eq_getElem hk)
end Go.Proofs.Ytkghkioghkapcaa
