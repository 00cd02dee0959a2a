/-
  Rows of one's own whose elements' own lists lie where they lay; growing, joining.
-/
import Derived.Test.YtekhkmhpeefenaaObjO
import Derived.Test.YtekhkmhpeefenaaObjC
import Derived.Lib.AppendZerosOnto
import Derived.Lib.SliceRun
import Derived.Shelf.Abstract
namespace Go.Proofs.Ytekhkmhpeefenaa
section
/-! Layer 7, the program: rows of one's own whose elements' own lists lie where they lay; growing, joining. -/
set_option linter.unusedVariables false
open Go.RowKit Go.Sort Go.Shelf Go.Lib

/-- The call's own row v, behind B, reads as l; what its elements lead to lies in blocks of S. -/
def OwnR {α : Type} (Q : Elem α) (w : World) (S : Nat → Prop) (B : Nat) (e : TypeId) (sz : Nat) (v : Value) (l : List α) : Prop :=
  ∃ xss : List (List Value), w.ownsRow B e sz v l.length xss.flatten ∧ xss.length = l.length ∧ ∀ (i : Nat) x y, xss[i]? = some x → l[i]? = some y → Q w S x y
section
variable {α : Type} {Q : Elem α} {w w' : World} {S : Nat → Prop} {B : Nat} {e : TypeId} {sz : Nat} {v : Value} {l : List α}
theorem OwnR.form (h : OwnR Q w S B e sz v l) : ∃ a cap, v = .slice a l.length cap ∧ l.length ≤ cap ∧ cap ≤ maxLen := by
  obtain ⟨xss, ⟨_, ⟨rfl, h0⟩ | ⟨g, cap, cur, rfl, _, _, h1, h2, _⟩⟩, _⟩ := h
  · exact ⟨none, 0, by rw [h0], by omega, by unfold maxLen; omega⟩
  · exact ⟨_, cap, rfl, h1, h2⟩
theorem OwnR.block (h : OwnR Q w S B e sz v l) {g : Nat} (hg : v.ownBlock = some g) : Sf B w g := by
  obtain ⟨xss, ⟨_, ⟨rfl, h0⟩ | ⟨g', cap, cur, rfl, hb, hc, h1, h2, _⟩⟩, _⟩ := h
  · cases hg
  · cases hg
    exact ⟨hb, _, _, hc⟩
theorem OwnR.keep (h : OwnR Q w S B e sz v l) (hQ : Stays Q sz) {T S' : Nat → Prop} (hk : Keeps T w w') (hs : ∀ k, S k → T k) (hb : ∀ g, v.ownBlock = some g → T g) (hs' : ∀ k, S k → S' k) : OwnR Q w' S' B e sz v l := by
  obtain ⟨xss, h1, h2, h3⟩ := h
  refine ⟨xss, ?_, h2, fun i x y hx hy => hQ.keep (h3 i x y hx hy) hs' (hk.mono hs)⟩
  rcases h1 with ⟨hl, h | ⟨g, cap, cur, rfl, h2, h3, h4⟩⟩
  · exact ⟨hl, .inl h⟩
  · exact ⟨hl, .inr ⟨g, cap, cur, rfl, h2, hk.row h3 (hb g rfl), h4⟩⟩
theorem OwnR.mono (h : OwnR Q w S B e sz v l) {B' : Nat} (hB : B' ≤ B) : OwnR Q w S B' e sz v l := by
  obtain ⟨xss, h1, h2⟩ := h
  exact ⟨xss, h1.mono hB, h2⟩
/-- Of elements that are all in themselves. -/
theorem OwnR.flat (h : OwnR Q w S B e sz v l) (hRw : ∀ {w w' : World} {S S' : Nat → Prop} {x : List Value} {y : α}, Q w S x y → Q w' S' x y) : OwnX Q w B e sz v l := by
  obtain ⟨xss, h1, h2, h3⟩ := h
  exact ⟨xss, h1, h2, fun i x y hx hy => hRw (h3 i x y hx hy)⟩
end
def GrowPost (w : World) (e : TypeId) (sz : Nat) (en : Ending) (w' : World) : Prop := ∃ v, en = .returned v ∧ w'.ownsRow w.heap.size e sz v 0 [] ∧ Below w.heap.size w w'
def ConcatPost {α : Type} (Q : Elem α) (w : World) (S : Nat → Prop) (e : TypeId) (sz : Nat) (l : List α) (en : Ending) (w' : World) : Prop := ∃ v, en = .returned v ∧ OwnR Q w' S w.heap.size e sz v l ∧ Below w.heap.size w w'
/-- A slice in a row of slices. -/
def lstP {α : Type} (Q : Elem α) (w : World) (S : Nat → Prop) (sz : Nat) (x : List Value) (l : List α) : Prop := ∃ v, x = [v] ∧ Lst w S (Q w S) sz v l
def lenT {α : Type} (ls : List (List α)) : Nat := ls.flatten.length
theorem lenT_take {α : Type} {ls : List (List α)} {k : Nat} (h : k < ls.length) : lenT (ls.take (k + 1)) = lenT (ls.take k) + ls[k].length := by
  unfold lenT
  rw [List.take_add_one, List.getElem?_eq_getElem h, List.flatten_append, List.length_append]
  simp
theorem flat_take {α : Type} {ls : List (List α)} {k : Nat} (h : k < ls.length) : (ls.take (k + 1)).flatten = (ls.take k).flatten ++ ls[k] := by
  rw [List.take_add_one, List.getElem?_eq_getElem h, List.flatten_append]
  simp
theorem lenT_le {α : Type} (ls : List (List α)) (k : Nat) : lenT (ls.take k) ≤ lenT ls := by
  unfold lenT
  conv => rhs; rw [← List.take_append_drop k ls, List.flatten_append, List.length_append]
  omega
theorem grow_own (w : World) (e : TypeId) (sz : Nat) (z : Value) (n : Nat) (hz : z.cells.size = sz) (hn : n ≤ 1099511627776) :
    GrowPost w e sz (.returned (.slice (some ⟨w.heap.size, 0, none⟩) 0 (grownCap w (0 + n) 0 e)))
      (w.drew.alloc (.cells (([] : List Value).toArray ++ Builtin.zeroCells z.cells n ++ Builtin.zeroCells z.cells (grownCap w (0 + n) 0 e - (0 + n))) e)) := by
  have h1 := grownCap_ge w (0 + n) 0 e
  have h2 := grownCap_le_maxLen w (0 + n) 0 e (by unfold maxLen; omega)
  generalize grownCap w (0 + n) 0 e = G at *
  have hd : Below w.heap.size w w.drew := ⟨rfl, rfl, rfl, Nat.le_refl _, fun _ _ => rfl⟩
  refine ⟨_, rfl, ⟨by simp, .inr ⟨w.heap.size, G, _, rfl, Nat.le_refl _, heap_alloc_new w.drew _, Nat.zero_le _, h2, ?_, by simp⟩⟩, hd.alloc (Nat.le_refl _) _⟩
  simp only [Array.size_append, size_zeroCells, hz, List.size_toArray, List.length_nil, Nat.zero_add]
  rw [← Nat.add_mul]
  congr 1
  omega

/-- 'append(v, src...)', v a row of one's own, src whatever reads as a list. -/
theorem wpList_append_more {P : Program} {w : World} {ops : Array Oper} {rest : List Oper} {o : Oper} {a : Act} {K : Exit → Act → World → Prop} (hgd : o.guard = none) (s x : Operand) (t : TypeId)
    (ho : o.op = .call { callee := .builtin .append, args := #[s, x], argTypes := #[t, t] })
    (base : Nat) (e : TypeId) (i : TypeInfo) (z : Value) (sz bytes : Nat) (ht : P.underlying t = some (.slice e)) (hi : P.info? e = some i) (hz : i.zero = some z)
    (hsize : i.size = sz) (hby : i.bytes = bytes) (hzs : z.cells.size = sz) (hsz : 0 < sz)
    {α : Type} {S : Nat → Prop} {R : Elem α} (hR : Stays R sz) {v : Value} {l : List α} (hs : a.eval s = v) (hown : OwnR R w S base e sz v l) (hSb : ∀ k, S k → k < base)
    {A : Option Addr} {m c : Nat} {l2 : List α} (hx : a.eval x = .slice A m c) (hL : Lst w S (R w S) sz (.slice A m c) l2)
    (h63 : l.length + m ≤ maxLen) (hbytes : ((l.length + m) + (l.length + m) / 4 + 192) * bytes ≤ 281474976710656) (hbase : base ≤ w.heap.size)
    (h : ∀ v' w', OwnR R w' S base e sz v' (l ++ l2) → Below base w w' → wpList P ops K rest (a.put o.dst v') w') : wpList P ops K (o :: rest) a w := by
  obtain ⟨hlm, hmc, hcm⟩ := hL.len
  obtain ⟨xss, hn, hxl, hxs, hrd⟩ := hL.cells fun x y hy hp => hR.size hp
  obtain ⟨hf1, hf2⟩ := flat_at hxs
  have h1 : ∀ u ∈ xss.flatten, u.oneCell' = true := by
    intro u hu
    obtain ⟨x, hx', hux⟩ := List.mem_flatten.1 hu
    obtain ⟨k, hk, rfl⟩ := List.mem_iff_getElem.1 hx'
    have hkl : k < l2.length := by omega
    exact hR.one (hxl k _ _ (List.getElem?_eq_getElem hk) (List.getElem?_eq_getElem hkl)) u hux
  obtain ⟨yss, hown1, hyl, hyx⟩ := hown
  cases A with
  | none =>
    have h0 : m = 0 := by
      rcases hrd with h | ⟨b, o, ha, _⟩
      · subst h; simpa using hn.symm
      · cases ha
    subst h0
    obtain rfl : l2 = [] := List.eq_nil_of_length_eq_zero hlm
    have hrun : (Builtin.append_ #[t, t] o.type #[v, .slice none 0 c]).run P w = .ok v w := by
      rcases hown1.2 with ⟨rfl, _⟩ | ⟨g, cap, cur, rfl, _, _, hnc, _⟩
      · simp [Builtin.append_, run_underlying ht, sizeOf, typeInfo, hi, Builtin.lenOf, Builtin.firstCells]
      · simp [Builtin.append_, run_underlying ht, sizeOf, typeInfo, hi, Builtin.lenOf, Builtin.firstCells, hnc, storeCells]
    refine wpList_plain hgd fun K' hK => ?_
    unfold Oper.wp execOp
    simp only [ho, resolve, invoke, builtin, Sem.run_bind, Sem.run_pure, Result.andThen_ok, List.map_toArray, List.map_cons, List.map_nil, hs, hx, hrun]
    exact hK _ _ (h v w (by rw [List.append_nil]; exact ⟨yss, hown1, hyl, hyx⟩) (Below.refl _ _))
  | some ad =>
    refine wpList_append_own_wide w hgd s x t ho base e i z sz bytes ht hi hz hsize hby hzs hsz v l.length yss.flatten hs hown1 ad m c xss.flatten hx (by rw [hf1, hn]) ?_ h1 h63 hbytes hbase ?_
    · intro j u hj
      by_cases hne : xss = []
      · subst hne; simp at hj
      · obtain ⟨ad', he, hat⟩ := hrd.flat hxs hne
        cases he
        exact hat j u hj
    · intro v' w' hown' hg _
      have hb : Below base w w' := ⟨hg.os, hg.tape, hg.output, hg.size, fun k hk => hg.block k (by omega) (by
        rcases hown1.2 with ⟨rfl, _⟩ | ⟨g, cap, cur, rfl, hg1, _⟩
        · simp [Value.ownBlock]
        · simp only [Value.ownBlock, ne_eq, Option.some.injEq]; omega)⟩
      have hkeep : Keeps S w w' := Keeps.of_below hb hSb
      refine h v' w' ⟨yss ++ xss, by rw [List.length_append, hlm, List.flatten_append]; exact hown', by rw [List.length_append, List.length_append, hn, hyl, hlm], fun i x y hx hy => ?_⟩ hb
      by_cases hi : i < l.length
      · rw [List.getElem?_append_left (by omega)] at hx
        rw [List.getElem?_append_left hi] at hy
        exact hR.keep (hyx i x y hx hy) (fun _ h => h) hkeep
      · rw [List.getElem?_append_right (by omega)] at hx
        rw [List.getElem?_append_right (by omega)] at hy
        rw [hyl] at hx
        exact hR.keep (hxl _ x y hx hy) (fun _ h => h) hkeep

section
variable {α : Type} {Q : Elem α} {sz : Nat} {w : World} {S : Nat → Prop}
/-- A new row of slices. -/
theorem listed (hQ : Stays Q sz) (vs : List Value) (ls : List (List α)) (t : TypeId) (hl : vs.length = ls.length) (hm : vs.length ≤ maxLen) (hS : ∀ k, S k → k < w.heap.size)
    (h : ∀ (i : Nat) v l, vs[i]? = some v → ls[i]? = some l → Lst w S (Q w S) sz v l) :
    Lst (w.alloc (.cells vs.toArray t)) (· < (w.alloc (.cells vs.toArray t)).heap.size) (lstP Q (w.alloc (.cells vs.toArray t)) S sz) 1 (.slice (some ⟨w.heap.size, 0, none⟩) vs.length vs.length) ls := by
  have hk : Keeps S w (w.alloc (.cells vs.toArray t)) := Keeps.of_below ((Below.refl w.heap.size w).alloc (Nat.le_refl _) _) hS
  refine ⟨_, vs.length, vs.map fun v => [v], by rw [hl], by omega, hm, .inr ⟨w.heap.size, 0, rfl, by simp, fun i x hx j u hu => ?_⟩, by simp [hl], fun i x y hx hy => ?_⟩
  · rw [List.getElem?_map] at hx
    cases hv : vs[i]? with
    | none => rw [hv] at hx; cases hx
    | some v =>
      rw [hv] at hx
      simp only [Option.map_some, Option.some.injEq] at hx
      subst hx
      have hj : j = 0 := by have := (List.getElem?_eq_some_iff.1 hu).1; simpa using this
      subst hj
      simp only [List.getElem?_cons_zero, Option.some.injEq] at hu
      subst hu
      rw [cell_of_row _ _ _ _ _ _ (heap_alloc_new w _)]
      simpa using hv
  · rw [List.getElem?_map] at hx
    cases hv : vs[i]? with
    | none => rw [hv] at hx; cases hx
    | some v =>
      rw [hv] at hx
      simp only [Option.map_some, Option.some.injEq] at hx
      subst hx
      exact ⟨v, rfl, (h i v y hv hy).keep (fun _ h => h) hk fun x y _ h => hQ.keep h (fun _ h => h) hk⟩
theorem copy_post {e : TypeId} {o : Obj} {l l' : List α} {en : Ending} {w' : World} (h : ConcatPost Q (w.alloc o) S e sz l' en w') (hl : l' = l) : ConcatPost Q w S e sz l en w' := by
  subst hl
  obtain ⟨v, h1, h2, h3⟩ := h
  exact ⟨v, h1, h2.mono (by simp), below_on ((Below.refl w.heap.size w).alloc (Nat.le_refl _) o) (by simp) h3⟩
end
end

section
open Go.RowKit
theorem Lst.dropped {α : Type} {w : World} {S : Nat → Prop} {P : List Value → α → Prop} {sz b o n cap : Nat} {l : List α} (h : Lst w S P sz (.slice (some ⟨b, o, none⟩) n cap) l) {k : Nat} (hk : k ≤ n) : Lst w S P sz (.slice (some ⟨b, o + k * sz, none⟩) (n - k) (cap - k)) (l.drop k) := by
  obtain ⟨a', cap', xss, h1, h2, h3, h4, h5, h6⟩ := h
  simp only [Value.slice.injEq] at h1
  obtain ⟨rfl, rfl, rfl⟩ := h1
  refine ⟨_, _, xss.drop k, by rw [List.length_drop], by rw [List.length_drop]; omega, by omega, ?_, by rw [List.length_drop, List.length_drop, h5], fun i x y hx hy => ?_⟩
  · rcases h4 with rfl | ⟨b', o', he, hb, hc⟩
    · exact .inl (by simp)
    · cases he
      refine .inr ⟨b, o + k * sz, rfl, hb, fun i x hx j u hu => ?_⟩
      rw [List.getElem?_drop] at hx
      have := hc (k + i) x hx j u hu
      rw [Nat.add_mul] at this
      rw [show o + k * sz + i * sz + j = o + (k * sz + i * sz) + j by omega]
      exact this
  · rw [List.getElem?_drop] at hx hy
    exact h6 _ x y hx hy
theorem Lst.none {α : Type} {w : World} {S : Nat → Prop} {P : List Value → α → Prop} {sz : Nat} (a : Option Addr) (c : Nat) (hc : c ≤ maxLen) : Lst w S P sz (.slice a 0 c) ([] : List α) :=
  ⟨a, c, [], rfl, Nat.zero_le _, hc, .inl rfl, rfl, fun i x y h => by simp at h⟩

end
end Go.Proofs.Ytekhkmhpeefenaa
