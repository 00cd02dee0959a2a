/-
  Merged: ObqA, ObqB, ObqC, ObqD.
-/
import Derived.Test.YteaeccpmociphaaObjP
import Derived.Lib.AppendZerosOnto
import Derived.Lib.SliceRun
import Derived.Shelf.Abstract
import Derived.Test.YteaeccpmociphaaObjS
namespace Go.Proofs.Yteaeccpmociphaa
section
/-! Layer 7, the program: rows of one's own whose elements' own lists lie where they lay; growing, joining. -/
set_option linter.unusedVariables false
open Go.RowKit Go.Sort Go.Shelf Go.Lib

/-- The call's own row v, behind B, reads as l; what its elements lead to lies in blocks of S. -/
def OwnR {α : Type} (Q : Elem α) (w : World) (S : Nat → Prop) (B : Nat) (e : TypeId) (sz : Nat) (v : Value) (l : List α) : Prop :=
  ∃ xss : List (List Value), w.ownsRow B e sz v l.length xss.flatten ∧ xss.length = l.length ∧ ∀ (i : Nat) x y, xss[i]? = some x → l[i]? = some y → Q w S x y
section
variable {α : Type} {Q : Elem α} {w w' : World} {S : Nat → Prop} {B : Nat} {e : TypeId} {sz : Nat} {v : Value} {l : List α}
theorem OwnR.form (h : OwnR Q w S B e sz v l) : ∃ a cap, v = .slice a l.length cap ∧ l.length ≤ cap ∧ cap ≤ maxLen := by
  obtain ⟨xss, ⟨_, ⟨rfl, h0⟩ | ⟨g, cap, cur, rfl, _, _, h1, h2, _⟩⟩, _⟩ := h
  · exact ⟨none, 0, by rw [h0], by omega, by unfold maxLen; omega⟩
  · exact ⟨_, cap, rfl, h1, h2⟩
theorem OwnR.block (h : OwnR Q w S B e sz v l) {g : Nat} (hg : v.ownBlock = some g) : Sf B w g := by
  obtain ⟨xss, ⟨_, ⟨rfl, h0⟩ | ⟨g', cap, cur, rfl, hb, hc, h1, h2, _⟩⟩, _⟩ := h
  · cases hg
  · cases hg
    exact ⟨hb, _, _, hc⟩
theorem OwnR.keep (h : OwnR Q w S B e sz v l) (hQ : Stays Q sz) {T S' : Nat → Prop} (hk : Keeps T w w') (hs : ∀ k, S k → T k) (hb : ∀ g, v.ownBlock = some g → T g) (hs' : ∀ k, S k → S' k) : OwnR Q w' S' B e sz v l := by
  obtain ⟨xss, h1, h2, h3⟩ := h
  refine ⟨xss, ?_, h2, fun i x y hx hy => hQ.keep (h3 i x y hx hy) hs' (hk.mono hs)⟩
  rcases h1 with ⟨hl, h | ⟨g, cap, cur, rfl, h2, h3, h4⟩⟩
  · exact ⟨hl, .inl h⟩
  · exact ⟨hl, .inr ⟨g, cap, cur, rfl, h2, hk.row h3 (hb g rfl), h4⟩⟩
theorem OwnR.mono (h : OwnR Q w S B e sz v l) {B' : Nat} (hB : B' ≤ B) : OwnR Q w S B' e sz v l := by
  obtain ⟨xss, h1, h2⟩ := h
  exact ⟨xss, h1.mono hB, h2⟩
/-- Of elements that are all in themselves. -/
theorem OwnR.flat (h : OwnR Q w S B e sz v l) (hRw : ∀ {w w' : World} {S S' : Nat → Prop} {x : List Value} {y : α}, Q w S x y → Q w' S' x y) : OwnX Q w B e sz v l := by
  obtain ⟨xss, h1, h2, h3⟩ := h
  exact ⟨xss, h1, h2, fun i x y hx hy => hRw (h3 i x y hx hy)⟩
end
def GrowPost (w : World) (e : TypeId) (sz : Nat) (en : Ending) (w' : World) : Prop := ∃ v, en = .returned v ∧ w'.ownsRow w.heap.size e sz v 0 [] ∧ Below w.heap.size w w'
def ConcatPost {α : Type} (Q : Elem α) (w : World) (S : Nat → Prop) (e : TypeId) (sz : Nat) (l : List α) (en : Ending) (w' : World) : Prop := ∃ v, en = .returned v ∧ OwnR Q w' S w.heap.size e sz v l ∧ Below w.heap.size w w'
/-- A slice in a row of slices. -/
def lstP {α : Type} (Q : Elem α) (w : World) (S : Nat → Prop) (sz : Nat) (x : List Value) (l : List α) : Prop := ∃ v, x = [v] ∧ Lst w S (Q w S) sz v l
def lenT {α : Type} (ls : List (List α)) : Nat := ls.flatten.length
theorem lenT_take {α : Type} {ls : List (List α)} {k : Nat} (h : k < ls.length) : lenT (ls.take (k + 1)) = lenT (ls.take k) + ls[k].length := by
  unfold lenT
  rw [List.take_add_one, List.getElem?_eq_getElem h, List.flatten_append, List.length_append]
  simp
theorem flat_take {α : Type} {ls : List (List α)} {k : Nat} (h : k < ls.length) : (ls.take (k + 1)).flatten = (ls.take k).flatten ++ ls[k] := by
  rw [List.take_add_one, List.getElem?_eq_getElem h, List.flatten_append]
  simp
theorem lenT_le {α : Type} (ls : List (List α)) (k : Nat) : lenT (ls.take k) ≤ lenT ls := by
  unfold lenT
  conv => rhs; rw [← List.take_append_drop k ls, List.flatten_append, List.length_append]
  omega
theorem grow_own (w : World) (e : TypeId) (sz : Nat) (z : Value) (n : Nat) (hz : z.cells.size = sz) (hn : n ≤ 1099511627776) :
    GrowPost w e sz (.returned (.slice (some ⟨w.heap.size, 0, none⟩) 0 (grownCap w (0 + n) 0 e)))
      (w.drew.alloc (.cells (([] : List Value).toArray ++ Builtin.zeroCells z.cells n ++ Builtin.zeroCells z.cells (grownCap w (0 + n) 0 e - (0 + n))) e)) := by
  have h1 := grownCap_ge w (0 + n) 0 e
  have h2 := grownCap_le_maxLen w (0 + n) 0 e (by unfold maxLen; omega)
  generalize grownCap w (0 + n) 0 e = G at *
  have hd : Below w.heap.size w w.drew := ⟨rfl, rfl, rfl, Nat.le_refl _, fun _ _ => rfl⟩
  refine ⟨_, rfl, ⟨by simp, .inr ⟨w.heap.size, G, _, rfl, Nat.le_refl _, heap_alloc_new w.drew _, Nat.zero_le _, h2, ?_, by simp⟩⟩, hd.alloc (Nat.le_refl _) _⟩
  simp only [Array.size_append, size_zeroCells, hz, List.size_toArray, List.length_nil, Nat.zero_add]
  rw [← Nat.add_mul]
  congr 1
  omega

/-- 'append(v, src...)', v a row of one's own, src whatever reads as a list. -/
theorem wpList_append_more {P : Program} {w : World} {ops : Array Oper} {rest : List Oper} {o : Oper} {a : Act} {K : Exit → Act → World → Prop} (hgd : o.guard = none) (s x : Operand) (t : TypeId)
    (ho : o.op = .call { callee := .builtin .append, args := #[s, x], argTypes := #[t, t] })
    (base : Nat) (e : TypeId) (i : TypeInfo) (z : Value) (sz bytes : Nat) (ht : P.underlying t = some (.slice e)) (hi : P.info? e = some i) (hz : i.zero = some z)
    (hsize : i.size = sz) (hby : i.bytes = bytes) (hzs : z.cells.size = sz) (hsz : 0 < sz)
    {α : Type} {S : Nat → Prop} {R : Elem α} (hR : Stays R sz) {v : Value} {l : List α} (hs : a.eval s = v) (hown : OwnR R w S base e sz v l) (hSb : ∀ k, S k → k < base)
    {A : Option Addr} {m c : Nat} {l2 : List α} (hx : a.eval x = .slice A m c) (hL : Lst w S (R w S) sz (.slice A m c) l2)
    (h63 : l.length + m ≤ maxLen) (hbytes : ((l.length + m) + (l.length + m) / 4 + 192) * bytes ≤ 281474976710656) (hbase : base ≤ w.heap.size)
    (h : ∀ v' w', OwnR R w' S base e sz v' (l ++ l2) → Below base w w' → wpList P ops K rest (a.put o.dst v') w') : wpList P ops K (o :: rest) a w := by
  obtain ⟨hlm, hmc, hcm⟩ := hL.len
  obtain ⟨xss, hn, hxl, hxs, hrd⟩ := hL.cells fun x y hy hp => hR.size hp
  obtain ⟨hf1, hf2⟩ := flat_at hxs
  have h1 : ∀ u ∈ xss.flatten, u.oneCell' = true := by
    intro u hu
    obtain ⟨x, hx', hux⟩ := List.mem_flatten.1 hu
    obtain ⟨k, hk, rfl⟩ := List.mem_iff_getElem.1 hx'
    have hkl : k < l2.length := by omega
    exact hR.one (hxl k _ _ (List.getElem?_eq_getElem hk) (List.getElem?_eq_getElem hkl)) u hux
  obtain ⟨yss, hown1, hyl, hyx⟩ := hown
  cases A with
  | none =>
    have h0 : m = 0 := by
      rcases hrd with h | ⟨b, o, ha, _⟩
      · subst h; simpa using hn.symm
      · cases ha
    subst h0
    obtain rfl : l2 = [] := List.eq_nil_of_length_eq_zero hlm
    have hrun : (Builtin.append_ #[t, t] o.type #[v, .slice none 0 c]).run P w = .ok v w := by
      rcases hown1.2 with ⟨rfl, _⟩ | ⟨g, cap, cur, rfl, _, _, hnc, _⟩
      · simp [Builtin.append_, run_underlying ht, sizeOf, typeInfo, hi, Builtin.lenOf, Builtin.firstCells]
      · simp [Builtin.append_, run_underlying ht, sizeOf, typeInfo, hi, Builtin.lenOf, Builtin.firstCells, hnc, storeCells]
    refine wpList_plain hgd fun K' hK => ?_
    unfold Oper.wp execOp
    simp only [ho, resolve, invoke, builtin, Sem.run_bind, Sem.run_pure, Result.andThen_ok, List.map_toArray, List.map_cons, List.map_nil, hs, hx, hrun]
    exact hK _ _ (h v w (by rw [List.append_nil]; exact ⟨yss, hown1, hyl, hyx⟩) (Below.refl _ _))
  | some ad =>
    refine wpList_append_own_wide w hgd s x t ho base e i z sz bytes ht hi hz hsize hby hzs hsz v l.length yss.flatten hs hown1 ad m c xss.flatten hx (by rw [hf1, hn]) ?_ h1 h63 hbytes hbase ?_
    · intro j u hj
      by_cases hne : xss = []
      · subst hne; simp at hj
      · obtain ⟨ad', he, hat⟩ := hrd.flat hxs hne
        cases he
        exact hat j u hj
    · intro v' w' hown' hg _
      have hb : Below base w w' := ⟨hg.os, hg.tape, hg.output, hg.size, fun k hk => hg.block k (by omega) (by
        rcases hown1.2 with ⟨rfl, _⟩ | ⟨g, cap, cur, rfl, hg1, _⟩
        · simp [Value.ownBlock]
        · simp only [Value.ownBlock, ne_eq, Option.some.injEq]; omega)⟩
      have hkeep : Keeps S w w' := Keeps.of_below hb hSb
      refine h v' w' ⟨yss ++ xss, by rw [List.length_append, hlm, List.flatten_append]; exact hown', by rw [List.length_append, List.length_append, hn, hyl, hlm], fun i x y hx hy => ?_⟩ hb
      by_cases hi : i < l.length
      · rw [List.getElem?_append_left (by omega)] at hx
        rw [List.getElem?_append_left hi] at hy
        exact hR.keep (hyx i x y hx hy) (fun _ h => h) hkeep
      · rw [List.getElem?_append_right (by omega)] at hx
        rw [List.getElem?_append_right (by omega)] at hy
        rw [hyl] at hx
        exact hR.keep (hxl _ x y hx hy) (fun _ h => h) hkeep

section
variable {α : Type} {Q : Elem α} {sz : Nat} {w : World} {S : Nat → Prop}
/-- A new row of slices. -/
theorem listed (hQ : Stays Q sz) (vs : List Value) (ls : List (List α)) (t : TypeId) (hl : vs.length = ls.length) (hm : vs.length ≤ maxLen) (hS : ∀ k, S k → k < w.heap.size)
    (h : ∀ (i : Nat) v l, vs[i]? = some v → ls[i]? = some l → Lst w S (Q w S) sz v l) :
    Lst (w.alloc (.cells vs.toArray t)) (· < (w.alloc (.cells vs.toArray t)).heap.size) (lstP Q (w.alloc (.cells vs.toArray t)) S sz) 1 (.slice (some ⟨w.heap.size, 0, none⟩) vs.length vs.length) ls := by
  have hk : Keeps S w (w.alloc (.cells vs.toArray t)) := Keeps.of_below ((Below.refl w.heap.size w).alloc (Nat.le_refl _) _) hS
  refine ⟨_, vs.length, vs.map fun v => [v], by rw [hl], by omega, hm, .inr ⟨w.heap.size, 0, rfl, by simp, fun i x hx j u hu => ?_⟩, by simp [hl], fun i x y hx hy => ?_⟩
  · rw [List.getElem?_map] at hx
    cases hv : vs[i]? with
    | none => rw [hv] at hx; cases hx
    | some v =>
      rw [hv] at hx
      simp only [Option.map_some, Option.some.injEq] at hx
      subst hx
      have hj : j = 0 := by have := (List.getElem?_eq_some_iff.1 hu).1; simpa using this
      subst hj
      simp only [List.getElem?_cons_zero, Option.some.injEq] at hu
      subst hu
      rw [cell_of_row _ _ _ _ _ _ (heap_alloc_new w _)]
      simpa using hv
  · rw [List.getElem?_map] at hx
    cases hv : vs[i]? with
    | none => rw [hv] at hx; cases hx
    | some v =>
      rw [hv] at hx
      simp only [Option.map_some, Option.some.injEq] at hx
      subst hx
      exact ⟨v, rfl, (h i v y hv hy).keep (fun _ h => h) hk fun x y _ h => hQ.keep h (fun _ h => h) hk⟩
theorem copy_post {e : TypeId} {o : Obj} {l l' : List α} {en : Ending} {w' : World} (h : ConcatPost Q (w.alloc o) S e sz l' en w') (hl : l' = l) : ConcatPost Q w S e sz l en w' := by
  subst hl
  obtain ⟨v, h1, h2, h3⟩ := h
  exact ⟨v, h1, h2.mono (by simp), below_on ((Below.refl w.heap.size w).alloc (Nat.le_refl _) o) (by simp) h3⟩
end
end

section
/-! Layer 7, the program, by contract: Grow, Concat, copyList. (Made by wip/gen_obq.py.) -/
set_option linter.unusedVariables false
open Go.RowKit Go.Sort Go.Shelf

set_option maxHeartbeats 2000000 in
set_option maxRecDepth 100000 in
theorem prog_grow_str (n : Nat) (w : World) (hn : n ≤ 1099511627776) :
    Calls Try.prog 139 #[.slice none 0 0, .int .i64 n] w (GrowPost w 9 1) := by
  obtain ⟨i0, hi0, hz0, hs0, hb0⟩ := info_parts strInfo
  have h1 : ¬ ((n : Int) < 0) := by omega
  have h2 : wrap64 ((n : Int) - 0) = n := by unfold wrap64; omega
  by_cases h0 : n = 0
  · subst h0
    go_enter Try.func139, Try.ntmps139
    go_wp2_with fail
    go_ret
    exact ⟨_, rfl, World.ownsRow_nil _ _ _ _, Below.refl _ _⟩
  · have h4 : (n : Int) > 0 := by omega
    have hrz : ∃ W G, n ≤ G ∧ G ≤ maxLen ∧ (∀ ty, (Builtin.append_ #[55, 3] ty #[.slice none 0 0, .int .i64 (n : Int)]).run Try.prog w = .ok (.slice (some ⟨w.heap.size, 0, none⟩) n G) W) ∧ GrowPost w 9 1 (.returned (.slice (some ⟨w.heap.size, 0, none⟩) 0 G)) W := by
      refine ⟨w.drew.alloc (.cells (([] : List Value).toArray ++ Builtin.zeroCells (Value.cells (.string ⟨#[]⟩)) n ++ Builtin.zeroCells (Value.cells (.string ⟨#[]⟩)) (grownCap w (0 + n) 0 9 - (0 + n))) 9), grownCap w (0 + n) 0 9, ?_, ?_, fun ty => ?_, grow_own w 9 1 (.string ⟨#[]⟩) n rfl hn⟩
      · have := grownCap_ge w (0 + n) 0 9; omega
      · exact grownCap_le_maxLen w (0 + n) 0 9 (by unfold maxLen; omega)
      · have h := Lib.run_append_grow_zeros w 55 3 ty 9 i0 _ .i64 .i64 Try.underlying55 Try.underlying3 hi0 hz0 none 0 0 [] (run_firstCells_none w.drew i0.size 0 0 0) n (by omega) (by rw [hs0]; omega) (by omega) (by omega) (by rw [hb0]; omega) (by rw [hb0]; exact growslice_fits (by omega) (by omega))
        rw [h, Nat.zero_add]
    obtain ⟨W, G, hG1, hG2, hrz, hp⟩ := hrz
    unfold maxLen at hG2
    have HP := Lib.hid hp
    clear hp
    go_enter Try.func139, Try.ntmps139
    go_wp2_with (at_builtin; refine Lib.wpList_append_run _ rfl _ _ _ _ rfl _ _ rfl rfl _ _ (hrz _) ?_)
    all_goals (go_ret; exact HP.out)

set_option maxHeartbeats 4000000 in
set_option maxRecDepth 100000 in
theorem prog_concat_str (a : Option Addr) (n c : Nat) (S : Nat → Prop) (ls : List (List ByteArray)) (w : World) (h : Lst w (· < w.heap.size) (lstP strQ w S 1) 1 (.slice a n c) ls) (hS : ∀ k, S k → k < w.heap.size) (hN : (lenT ls) ≤ 1099511627776) :
    Calls Try.prog 136 #[.slice a n c] w (ConcatPost strQ w S 9 1 ls.flatten) := by
  obtain ⟨hl, hc, hm⟩ := h.len
  unfold maxLen at hm
  have HL := Lib.hid hl
  have HH := Lib.hid h
  have HS := Lib.hid hS
  obtain ⟨i0, hi0, hz0, hs0, hb0⟩ := info_parts strInfo
  have HI := Lib.hid (And.intro hi0 (And.intro hz0 (And.intro hs0 hb0)))
  clear h hl hS hi0 hz0 hs0 hb0
  go_enter Try.func136, Try.ntmps136
  go_wp2_with fail
  go_loop [3, 5, 11] (fun q _ i => ∃ k : Nat, k ≤ n ∧ q = .int .i64 (lenT (ls.take k) : Nat) ∧ i = .int .i64 k) (fun _ _ i => n - (intOf i).toNat)
  case atStart => exact ⟨0, Nat.zero_le _, by rw [List.take_zero]; rfl, rfl⟩
  case round =>
    obtain ⟨k, hk, rfl, rfl⟩ := hrel
    by_cases hlt : k < n
    · have lk : k < ls.length := by rw [HL.out]; exact hlt
      obtain ⟨b, o, x, rfl, hbB, ⟨v, hx, hv⟩, hcl⟩ := HH.out.at lk
      have hsum := lenT_take lk
      have hle := lenT_le ls (k + 1)
      have k0 : (0 : Int) ≤ (k : Int) := by omega
      have k1 : (k : Int) < (n : Int) := by omega
      obtain ⟨va, vc, rfl, _, _⟩ := hv.form
      generalize ls[k] = y at *
      subst hx
      have c0 : w.cell? ⟨b, o + k, none⟩ = some (.slice va y.length vc) := by have := hcl 0 _ rfl; simpa using this
      clear hcl hv
      obtain ⟨q', hq'⟩ : ∃ q', lenT (ls.take (k + 1)) = q' := ⟨_, rfl⟩
      rw [hq'] at hsum hle
      have HSUM := Lib.hid hsum
      have HQ := Lib.hid hq'
      clear hq'
      generalize lenT (ls.take k) = q at *
      generalize y.length = m at *
      have e1 : wrap64 ((q : Int) + (m : Int)) = (q' : Int) := by have := HSUM.out; unfold wrap64; omega
      have e2 : ¬ ((q' : Int) < 0) := Int.not_lt.2 (Int.natCast_nonneg q')
      clear hsum
      go_wp2_with fail
      go_round
      case rel => exact ⟨k + 1, by omega, by rw [HQ.out]; go_num, by go_num⟩
      case measure => simp [intOf]; omega
    · obtain rfl : n = k := by omega
      have HAL := Lib.hid (show ls.take n = ls by rw [List.take_of_length_le]; have := HL.out; omega)
      have HT := Lib.hid (show lenT (ls.take n) ≤ 1099511627776 by rw [HAL.out]; exact hN)
      generalize lenT (ls.take n) = q at *
      go_wp2_with (go_at_call 139; refine (prog_grow_str _ _ HT.out).mono ?_; rintro e w' ⟨v1, rfl, hv1, hb1⟩)
      have HV1 := Lib.hid hv1; have HB1 := Lib.hid hb1
      clear hv1 hb1
      go_loopw [6, 8, 27] (fun v _ i wr => ∃ k : Nat, k ≤ n ∧ i = .int .i64 k ∧ OwnR strQ wr S w.heap.size 9 1 v (ls.take k).flatten ∧ Below w.heap.size w wr) (fun _ _ i _ => n - (intOf i).toNat)
      case atStart => exact ⟨0, Nat.zero_le _, rfl, ⟨[], by rw [List.take_zero]; exact HV1.out, by simp, fun i x y h => by simp at h⟩, HB1.out⟩
      case round =>
        obtain ⟨k, hk, rfl, hv, hbw⟩ := hrel
        have HV := Lib.hid hv
        have HBW := Lib.hid hbw
        by_cases hlt : k < n
        · have lk : k < ls.length := by rw [HL.out]; exact hlt
          obtain ⟨b, o, x, rfl, hbB, ⟨v, hx, hv2⟩, hcl⟩ := HH.out.at lk
          have hft := flat_take lk
          have hsum := lenT_take lk
          have hle := lenT_le ls (k + 1)
          have k0 : (0 : Int) ≤ (k : Int) := by omega
          have k1 : (k : Int) < (n : Int) := by omega
          have hv3 : Lst wr S (strQ wr S) 1 v ls[k] := hv2.keep (fun _ h => h) (Keeps.of_below hbw HS.out) fun x y _ h => str_stays.keep h (fun _ h => h) (Keeps.of_below hbw HS.out)
          obtain ⟨va, vc, rfl, _, _⟩ := hv2.form
          have hlen : (ls.take k).flatten.length + ls[k].length ≤ 1099511627776 := by
            unfold lenT at hsum hle hN; omega
          have HFT := Lib.hid hft; have HLEN := Lib.hid hlen; have HV3 := Lib.hid hv3
          clear hft hsum hle hlen hv3 hv2 hv
          subst hx
          have c0 : wr.cell? ⟨b, o + k, none⟩ = some (.slice va ls[k].length vc) := (hbw.cell (p := ⟨b, o + k, none⟩) hbB).trans (by have := hcl 0 _ rfl; simpa using this)
          clear hcl hbw
          generalize ls[k] = y at *
          obtain ⟨m, hm2⟩ : ∃ m, y.length = m := ⟨_, rfl⟩
          rw [hm2] at c0 HV3 HLEN
          clear hm2
          obtain ⟨i0, ci, cz0, cz1, cz2⟩ := info_parts strInfo
          go_wp2_with (at_builtin; refine wpList_append_more rfl _ _ 55 rfl w.heap.size 9 i0 _ 1 16 Try.underlying55 ci cz0 cz1 cz2 rfl (by decide) str_stays rfl HV.out HS.out rfl HV3.out ?c1 ?c2 ?c3 ?_)
          case c1 => have := HLEN.out; unfold maxLen; omega
          case c2 => have := HLEN.out; omega
          case c3 => exact HBW.out.size
          intro v4 w4 hv4 hb4
          have HV4 := Lib.hid hv4
          go_wp2_with fail
          go_roundw
          case rel => exact ⟨k + 1, by omega, by go_num, by rw [HFT.out]; exact HV4.out, HBW.out.trans hb4⟩
          case measure => simp [intOf]; omega
        · obtain rfl : n = k := by omega
          go_wp2_with fail
          go_ret
          exact ⟨_, rfl, by rw [← HAL.out]; exact HV.out, HBW.out⟩

set_option maxHeartbeats 4000000 in
theorem prog_copylist_str (a : Option Addr) (n c : Nat) (S : Nat → Prop) (l : List ByteArray) (w : World) (h : Lst w S (strQ w S) 1 (.slice a n c) l) (hS : ∀ k, S k → k < w.heap.size) (hN : n ≤ 1099511627776) :
    Calls Try.prog 123 #[.slice a n c] w (ConcatPost strQ w S 9 1 l) := by
  have HL := h.len.1
  have HC := Lib.hid (prog_concat_str (some ⟨w.heap.size, 0, none⟩) 1 1 S [l] (w.alloc (.cells #[.slice a n c] 55)) (listed str_stays [.slice a n c] [l] 55 rfl (show 1 ≤ maxLen by unfold maxLen; decide) hS fun i v y hi hy => by
      cases i with
      | zero => simp only [List.getElem?_cons_zero, Option.some.injEq] at hi hy; subst hi hy; exact h
      | succ i => simp at hi)
    (fun k hk => by have := hS k hk; rw [show (w.alloc (.cells #[.slice a n c] 55)).heap.size = w.heap.size + 1 by simp]; omega) (by unfold lenT; simp only [List.flatten_cons, List.flatten_nil, List.append_nil]; omega))
  clear h hS HL
  go_enter Try.func123, Try.ntmps123
  go_wp2_with (go_at_call 136; refine HC.out.mono ?_; intro e w' hp; obtain ⟨v, rfl, hv, hb⟩ := copy_post hp (List.append_nil l))
  go_ret
  exact ⟨_, rfl, hv, hb⟩

set_option maxHeartbeats 2000000 in
set_option maxRecDepth 100000 in
theorem prog_grow_col (n : Nat) (w : World) (hn : n ≤ 1099511627776) :
    Calls Try.prog 133 #[.slice none 0 0, .int .i64 n] w (GrowPost w 41 3) := by
  obtain ⟨i0, hi0, hz0, hs0, hb0⟩ := info_parts colInfo
  have h1 : ¬ ((n : Int) < 0) := by omega
  have h2 : wrap64 ((n : Int) - 0) = n := by unfold wrap64; omega
  by_cases h0 : n = 0
  · subst h0
    go_enter Try.func133, Try.ntmps133
    go_wp2_with fail
    go_ret
    exact ⟨_, rfl, World.ownsRow_nil _ _ _ _, Below.refl _ _⟩
  · have h4 : (n : Int) > 0 := by omega
    have hrz : ∃ W G, n ≤ G ∧ G ≤ maxLen ∧ (∀ ty, (Builtin.append_ #[32, 3] ty #[.slice none 0 0, .int .i64 (n : Int)]).run Try.prog w = .ok (.slice (some ⟨w.heap.size, 0, none⟩) n G) W) ∧ GrowPost w 41 3 (.returned (.slice (some ⟨w.heap.size, 0, none⟩) 0 G)) W := by
      refine ⟨w.drew.alloc (.cells (([] : List Value).toArray ++ Builtin.zeroCells (Value.cells (.agg #[.string ⟨#[]⟩, .int .i64 0, .bool false])) n ++ Builtin.zeroCells (Value.cells (.agg #[.string ⟨#[]⟩, .int .i64 0, .bool false])) (grownCap w (0 + n) 0 41 - (0 + n))) 41), grownCap w (0 + n) 0 41, ?_, ?_, fun ty => ?_, grow_own w 41 3 (.agg #[.string ⟨#[]⟩, .int .i64 0, .bool false]) n rfl hn⟩
      · have := grownCap_ge w (0 + n) 0 41; omega
      · exact grownCap_le_maxLen w (0 + n) 0 41 (by unfold maxLen; omega)
      · have h := Lib.run_append_grow_zeros w 32 3 ty 41 i0 _ .i64 .i64 Try.underlying32 Try.underlying3 hi0 hz0 none 0 0 [] (run_firstCells_none w.drew i0.size 0 0 0) n (by omega) (by rw [hs0]; omega) (by omega) (by omega) (by rw [hb0]; omega) (by rw [hb0]; exact growslice_fits (by omega) (by omega))
        rw [h, Nat.zero_add]
    obtain ⟨W, G, hG1, hG2, hrz, hp⟩ := hrz
    unfold maxLen at hG2
    have HP := Lib.hid hp
    clear hp
    go_enter Try.func133, Try.ntmps133
    go_wp2_with (at_builtin; refine Lib.wpList_append_run _ rfl _ _ _ _ rfl _ _ rfl rfl _ _ (hrz _) ?_)
    all_goals (go_ret; exact HP.out)

set_option maxHeartbeats 4000000 in
set_option maxRecDepth 100000 in
theorem prog_concat_col (a : Option Addr) (n c : Nat) (S : Nat → Prop) (ls : List (List Col)) (w : World) (h : Lst w (· < w.heap.size) (lstP colQ w S 3) 1 (.slice a n c) ls) (hS : ∀ k, S k → k < w.heap.size) (hN : (lenT ls) ≤ 1099511627776) :
    Calls Try.prog 113 #[.slice a n c] w (ConcatPost colQ w S 41 3 ls.flatten) := by
  obtain ⟨hl, hc, hm⟩ := h.len
  unfold maxLen at hm
  have HL := Lib.hid hl
  have HH := Lib.hid h
  have HS := Lib.hid hS
  obtain ⟨i0, hi0, hz0, hs0, hb0⟩ := info_parts colInfo
  have HI := Lib.hid (And.intro hi0 (And.intro hz0 (And.intro hs0 hb0)))
  clear h hl hS hi0 hz0 hs0 hb0
  go_enter Try.func113, Try.ntmps113
  go_wp2_with fail
  go_loop [3, 5, 11] (fun q _ i => ∃ k : Nat, k ≤ n ∧ q = .int .i64 (lenT (ls.take k) : Nat) ∧ i = .int .i64 k) (fun _ _ i => n - (intOf i).toNat)
  case atStart => exact ⟨0, Nat.zero_le _, by rw [List.take_zero]; rfl, rfl⟩
  case round =>
    obtain ⟨k, hk, rfl, rfl⟩ := hrel
    by_cases hlt : k < n
    · have lk : k < ls.length := by rw [HL.out]; exact hlt
      obtain ⟨b, o, x, rfl, hbB, ⟨v, hx, hv⟩, hcl⟩ := HH.out.at lk
      have hsum := lenT_take lk
      have hle := lenT_le ls (k + 1)
      have k0 : (0 : Int) ≤ (k : Int) := by omega
      have k1 : (k : Int) < (n : Int) := by omega
      obtain ⟨va, vc, rfl, _, _⟩ := hv.form
      generalize ls[k] = y at *
      subst hx
      have c0 : w.cell? ⟨b, o + k, none⟩ = some (.slice va y.length vc) := by have := hcl 0 _ rfl; simpa using this
      clear hcl hv
      obtain ⟨q', hq'⟩ : ∃ q', lenT (ls.take (k + 1)) = q' := ⟨_, rfl⟩
      rw [hq'] at hsum hle
      have HSUM := Lib.hid hsum
      have HQ := Lib.hid hq'
      clear hq'
      generalize lenT (ls.take k) = q at *
      generalize y.length = m at *
      have e1 : wrap64 ((q : Int) + (m : Int)) = (q' : Int) := by have := HSUM.out; unfold wrap64; omega
      have e2 : ¬ ((q' : Int) < 0) := Int.not_lt.2 (Int.natCast_nonneg q')
      clear hsum
      go_wp2_with fail
      go_round
      case rel => exact ⟨k + 1, by omega, by rw [HQ.out]; go_num, by go_num⟩
      case measure => simp [intOf]; omega
    · obtain rfl : n = k := by omega
      have HAL := Lib.hid (show ls.take n = ls by rw [List.take_of_length_le]; have := HL.out; omega)
      have HT := Lib.hid (show lenT (ls.take n) ≤ 1099511627776 by rw [HAL.out]; exact hN)
      generalize lenT (ls.take n) = q at *
      go_wp2_with (go_at_call 133; refine (prog_grow_col _ _ HT.out).mono ?_; rintro e w' ⟨v1, rfl, hv1, hb1⟩)
      have HV1 := Lib.hid hv1; have HB1 := Lib.hid hb1
      clear hv1 hb1
      go_loopw [6, 8, 27] (fun v _ i wr => ∃ k : Nat, k ≤ n ∧ i = .int .i64 k ∧ OwnR colQ wr S w.heap.size 41 3 v (ls.take k).flatten ∧ Below w.heap.size w wr) (fun _ _ i _ => n - (intOf i).toNat)
      case atStart => exact ⟨0, Nat.zero_le _, rfl, ⟨[], by rw [List.take_zero]; exact HV1.out, by simp, fun i x y h => by simp at h⟩, HB1.out⟩
      case round =>
        obtain ⟨k, hk, rfl, hv, hbw⟩ := hrel
        have HV := Lib.hid hv
        have HBW := Lib.hid hbw
        by_cases hlt : k < n
        · have lk : k < ls.length := by rw [HL.out]; exact hlt
          obtain ⟨b, o, x, rfl, hbB, ⟨v, hx, hv2⟩, hcl⟩ := HH.out.at lk
          have hft := flat_take lk
          have hsum := lenT_take lk
          have hle := lenT_le ls (k + 1)
          have k0 : (0 : Int) ≤ (k : Int) := by omega
          have k1 : (k : Int) < (n : Int) := by omega
          have hv3 : Lst wr S (colQ wr S) 3 v ls[k] := hv2.keep (fun _ h => h) (Keeps.of_below hbw HS.out) fun x y _ h => col_stays.keep h (fun _ h => h) (Keeps.of_below hbw HS.out)
          obtain ⟨va, vc, rfl, _, _⟩ := hv2.form
          have hlen : (ls.take k).flatten.length + ls[k].length ≤ 1099511627776 := by
            unfold lenT at hsum hle hN; omega
          have HFT := Lib.hid hft; have HLEN := Lib.hid hlen; have HV3 := Lib.hid hv3
          clear hft hsum hle hlen hv3 hv2 hv
          subst hx
          have c0 : wr.cell? ⟨b, o + k, none⟩ = some (.slice va ls[k].length vc) := (hbw.cell (p := ⟨b, o + k, none⟩) hbB).trans (by have := hcl 0 _ rfl; simpa using this)
          clear hcl hbw
          generalize ls[k] = y at *
          obtain ⟨m, hm2⟩ : ∃ m, y.length = m := ⟨_, rfl⟩
          rw [hm2] at c0 HV3 HLEN
          clear hm2
          obtain ⟨i0, ci, cz0, cz1, cz2⟩ := info_parts colInfo
          go_wp2_with (at_builtin; refine wpList_append_more rfl _ _ 32 rfl w.heap.size 41 i0 _ 3 32 Try.underlying32 ci cz0 cz1 cz2 rfl (by decide) col_stays rfl HV.out HS.out rfl HV3.out ?c1 ?c2 ?c3 ?_)
          case c1 => have := HLEN.out; unfold maxLen; omega
          case c2 => have := HLEN.out; omega
          case c3 => exact HBW.out.size
          intro v4 w4 hv4 hb4
          have HV4 := Lib.hid hv4
          go_wp2_with fail
          go_roundw
          case rel => exact ⟨k + 1, by omega, by go_num, by rw [HFT.out]; exact HV4.out, HBW.out.trans hb4⟩
          case measure => simp [intOf]; omega
        · obtain rfl : n = k := by omega
          go_wp2_with fail
          go_ret
          exact ⟨_, rfl, by rw [← HAL.out]; exact HV.out, HBW.out⟩

set_option maxHeartbeats 4000000 in
theorem prog_copylist_col (a : Option Addr) (n c : Nat) (S : Nat → Prop) (l : List Col) (w : World) (h : Lst w S (colQ w S) 3 (.slice a n c) l) (hS : ∀ k, S k → k < w.heap.size) (hN : n ≤ 1099511627776) :
    Calls Try.prog 94 #[.slice a n c] w (ConcatPost colQ w S 41 3 l) := by
  have HL := h.len.1
  have HC := Lib.hid (prog_concat_col (some ⟨w.heap.size, 0, none⟩) 1 1 S [l] (w.alloc (.cells #[.slice a n c] 32)) (listed col_stays [.slice a n c] [l] 32 rfl (show 1 ≤ maxLen by unfold maxLen; decide) hS fun i v y hi hy => by
      cases i with
      | zero => simp only [List.getElem?_cons_zero, Option.some.injEq] at hi hy; subst hi hy; exact h
      | succ i => simp at hi)
    (fun k hk => by have := hS k hk; rw [show (w.alloc (.cells #[.slice a n c] 32)).heap.size = w.heap.size + 1 by simp]; omega) (by unfold lenT; simp only [List.flatten_cons, List.flatten_nil, List.append_nil]; omega))
  clear h hS HL
  go_enter Try.func94, Try.ntmps94
  go_wp2_with (go_at_call 113; refine HC.out.mono ?_; intro e w' hp; obtain ⟨v, rfl, hv, hb⟩ := copy_post hp (List.append_nil l))
  go_ret
  exact ⟨_, rfl, hv, hb⟩

set_option maxHeartbeats 2000000 in
set_option maxRecDepth 100000 in
theorem prog_grow_sch (n : Nat) (w : World) (hn : n ≤ 1099511627776) :
    Calls Try.prog 129 #[.slice none 0 0, .int .i64 n] w (GrowPost w 72 2) := by
  obtain ⟨i0, hi0, hz0, hs0, hb0⟩ := info_parts schInfo
  have h1 : ¬ ((n : Int) < 0) := by omega
  have h2 : wrap64 ((n : Int) - 0) = n := by unfold wrap64; omega
  by_cases h0 : n = 0
  · subst h0
    go_enter Try.func129, Try.ntmps129
    go_wp2_with fail
    go_ret
    exact ⟨_, rfl, World.ownsRow_nil _ _ _ _, Below.refl _ _⟩
  · have h4 : (n : Int) > 0 := by omega
    have hrz : ∃ W G, n ≤ G ∧ G ≤ maxLen ∧ (∀ ty, (Builtin.append_ #[23, 3] ty #[.slice none 0 0, .int .i64 (n : Int)]).run Try.prog w = .ok (.slice (some ⟨w.heap.size, 0, none⟩) n G) W) ∧ GrowPost w 72 2 (.returned (.slice (some ⟨w.heap.size, 0, none⟩) 0 G)) W := by
      refine ⟨w.drew.alloc (.cells (([] : List Value).toArray ++ Builtin.zeroCells (Value.cells (.agg #[.string ⟨#[]⟩, .string ⟨#[]⟩])) n ++ Builtin.zeroCells (Value.cells (.agg #[.string ⟨#[]⟩, .string ⟨#[]⟩])) (grownCap w (0 + n) 0 72 - (0 + n))) 72), grownCap w (0 + n) 0 72, ?_, ?_, fun ty => ?_, grow_own w 72 2 (.agg #[.string ⟨#[]⟩, .string ⟨#[]⟩]) n rfl hn⟩
      · have := grownCap_ge w (0 + n) 0 72; omega
      · exact grownCap_le_maxLen w (0 + n) 0 72 (by unfold maxLen; omega)
      · have h := Lib.run_append_grow_zeros w 23 3 ty 72 i0 _ .i64 .i64 Try.underlying23 Try.underlying3 hi0 hz0 none 0 0 [] (run_firstCells_none w.drew i0.size 0 0 0) n (by omega) (by rw [hs0]; omega) (by omega) (by omega) (by rw [hb0]; omega) (by rw [hb0]; exact growslice_fits (by omega) (by omega))
        rw [h, Nat.zero_add]
    obtain ⟨W, G, hG1, hG2, hrz, hp⟩ := hrz
    unfold maxLen at hG2
    have HP := Lib.hid hp
    clear hp
    go_enter Try.func129, Try.ntmps129
    go_wp2_with (at_builtin; refine Lib.wpList_append_run _ rfl _ _ _ _ rfl _ _ rfl rfl _ _ (hrz _) ?_)
    all_goals (go_ret; exact HP.out)

set_option maxHeartbeats 4000000 in
set_option maxRecDepth 100000 in
theorem prog_concat_sch (a : Option Addr) (n c : Nat) (S : Nat → Prop) (ls : List (List Sch)) (w : World) (h : Lst w (· < w.heap.size) (lstP schQ w S 2) 1 (.slice a n c) ls) (hS : ∀ k, S k → k < w.heap.size) (hN : (lenT ls) ≤ 1099511627776) :
    Calls Try.prog 103 #[.slice a n c] w (ConcatPost schQ w S 72 2 ls.flatten) := by
  obtain ⟨hl, hc, hm⟩ := h.len
  unfold maxLen at hm
  have HL := Lib.hid hl
  have HH := Lib.hid h
  have HS := Lib.hid hS
  obtain ⟨i0, hi0, hz0, hs0, hb0⟩ := info_parts schInfo
  have HI := Lib.hid (And.intro hi0 (And.intro hz0 (And.intro hs0 hb0)))
  clear h hl hS hi0 hz0 hs0 hb0
  go_enter Try.func103, Try.ntmps103
  go_wp2_with fail
  go_loop [3, 5, 11] (fun q _ i => ∃ k : Nat, k ≤ n ∧ q = .int .i64 (lenT (ls.take k) : Nat) ∧ i = .int .i64 k) (fun _ _ i => n - (intOf i).toNat)
  case atStart => exact ⟨0, Nat.zero_le _, by rw [List.take_zero]; rfl, rfl⟩
  case round =>
    obtain ⟨k, hk, rfl, rfl⟩ := hrel
    by_cases hlt : k < n
    · have lk : k < ls.length := by rw [HL.out]; exact hlt
      obtain ⟨b, o, x, rfl, hbB, ⟨v, hx, hv⟩, hcl⟩ := HH.out.at lk
      have hsum := lenT_take lk
      have hle := lenT_le ls (k + 1)
      have k0 : (0 : Int) ≤ (k : Int) := by omega
      have k1 : (k : Int) < (n : Int) := by omega
      obtain ⟨va, vc, rfl, _, _⟩ := hv.form
      generalize ls[k] = y at *
      subst hx
      have c0 : w.cell? ⟨b, o + k, none⟩ = some (.slice va y.length vc) := by have := hcl 0 _ rfl; simpa using this
      clear hcl hv
      obtain ⟨q', hq'⟩ : ∃ q', lenT (ls.take (k + 1)) = q' := ⟨_, rfl⟩
      rw [hq'] at hsum hle
      have HSUM := Lib.hid hsum
      have HQ := Lib.hid hq'
      clear hq'
      generalize lenT (ls.take k) = q at *
      generalize y.length = m at *
      have e1 : wrap64 ((q : Int) + (m : Int)) = (q' : Int) := by have := HSUM.out; unfold wrap64; omega
      have e2 : ¬ ((q' : Int) < 0) := Int.not_lt.2 (Int.natCast_nonneg q')
      clear hsum
      go_wp2_with fail
      go_round
      case rel => exact ⟨k + 1, by omega, by rw [HQ.out]; go_num, by go_num⟩
      case measure => simp [intOf]; omega
    · obtain rfl : n = k := by omega
      have HAL := Lib.hid (show ls.take n = ls by rw [List.take_of_length_le]; have := HL.out; omega)
      have HT := Lib.hid (show lenT (ls.take n) ≤ 1099511627776 by rw [HAL.out]; exact hN)
      generalize lenT (ls.take n) = q at *
      go_wp2_with (go_at_call 129; refine (prog_grow_sch _ _ HT.out).mono ?_; rintro e w' ⟨v1, rfl, hv1, hb1⟩)
      have HV1 := Lib.hid hv1; have HB1 := Lib.hid hb1
      clear hv1 hb1
      go_loopw [6, 8, 27] (fun v _ i wr => ∃ k : Nat, k ≤ n ∧ i = .int .i64 k ∧ OwnR schQ wr S w.heap.size 72 2 v (ls.take k).flatten ∧ Below w.heap.size w wr) (fun _ _ i _ => n - (intOf i).toNat)
      case atStart => exact ⟨0, Nat.zero_le _, rfl, ⟨[], by rw [List.take_zero]; exact HV1.out, by simp, fun i x y h => by simp at h⟩, HB1.out⟩
      case round =>
        obtain ⟨k, hk, rfl, hv, hbw⟩ := hrel
        have HV := Lib.hid hv
        have HBW := Lib.hid hbw
        by_cases hlt : k < n
        · have lk : k < ls.length := by rw [HL.out]; exact hlt
          obtain ⟨b, o, x, rfl, hbB, ⟨v, hx, hv2⟩, hcl⟩ := HH.out.at lk
          have hft := flat_take lk
          have hsum := lenT_take lk
          have hle := lenT_le ls (k + 1)
          have k0 : (0 : Int) ≤ (k : Int) := by omega
          have k1 : (k : Int) < (n : Int) := by omega
          have hv3 : Lst wr S (schQ wr S) 2 v ls[k] := hv2.keep (fun _ h => h) (Keeps.of_below hbw HS.out) fun x y _ h => sch_stays.keep h (fun _ h => h) (Keeps.of_below hbw HS.out)
          obtain ⟨va, vc, rfl, _, _⟩ := hv2.form
          have hlen : (ls.take k).flatten.length + ls[k].length ≤ 1099511627776 := by
            unfold lenT at hsum hle hN; omega
          have HFT := Lib.hid hft; have HLEN := Lib.hid hlen; have HV3 := Lib.hid hv3
          clear hft hsum hle hlen hv3 hv2 hv
          subst hx
          have c0 : wr.cell? ⟨b, o + k, none⟩ = some (.slice va ls[k].length vc) := (hbw.cell (p := ⟨b, o + k, none⟩) hbB).trans (by have := hcl 0 _ rfl; simpa using this)
          clear hcl hbw
          generalize ls[k] = y at *
          obtain ⟨m, hm2⟩ : ∃ m, y.length = m := ⟨_, rfl⟩
          rw [hm2] at c0 HV3 HLEN
          clear hm2
          obtain ⟨i0, ci, cz0, cz1, cz2⟩ := info_parts schInfo
          go_wp2_with (at_builtin; refine wpList_append_more rfl _ _ 23 rfl w.heap.size 72 i0 _ 2 32 Try.underlying23 ci cz0 cz1 cz2 rfl (by decide) sch_stays rfl HV.out HS.out rfl HV3.out ?c1 ?c2 ?c3 ?_)
          case c1 => have := HLEN.out; unfold maxLen; omega
          case c2 => have := HLEN.out; omega
          case c3 => exact HBW.out.size
          intro v4 w4 hv4 hb4
          have HV4 := Lib.hid hv4
          go_wp2_with fail
          go_roundw
          case rel => exact ⟨k + 1, by omega, by go_num, by rw [HFT.out]; exact HV4.out, HBW.out.trans hb4⟩
          case measure => simp [intOf]; omega
        · obtain rfl : n = k := by omega
          go_wp2_with fail
          go_ret
          exact ⟨_, rfl, by rw [← HAL.out]; exact HV.out, HBW.out⟩

set_option maxHeartbeats 4000000 in
theorem prog_copylist_sch (a : Option Addr) (n c : Nat) (S : Nat → Prop) (l : List Sch) (w : World) (h : Lst w S (schQ w S) 2 (.slice a n c) l) (hS : ∀ k, S k → k < w.heap.size) (hN : n ≤ 1099511627776) :
    Calls Try.prog 124 #[.slice a n c] w (ConcatPost schQ w S 72 2 l) := by
  have HL := h.len.1
  have HC := Lib.hid (prog_concat_sch (some ⟨w.heap.size, 0, none⟩) 1 1 S [l] (w.alloc (.cells #[.slice a n c] 23)) (listed sch_stays [.slice a n c] [l] 23 rfl (show 1 ≤ maxLen by unfold maxLen; decide) hS fun i v y hi hy => by
      cases i with
      | zero => simp only [List.getElem?_cons_zero, Option.some.injEq] at hi hy; subst hi hy; exact h
      | succ i => simp at hi)
    (fun k hk => by have := hS k hk; rw [show (w.alloc (.cells #[.slice a n c] 23)).heap.size = w.heap.size + 1 by simp]; omega) (by unfold lenT; simp only [List.flatten_cons, List.flatten_nil, List.append_nil]; omega))
  clear h hS HL
  go_enter Try.func124, Try.ntmps124
  go_wp2_with (go_at_call 103; refine HC.out.mono ?_; intro e w' hp; obtain ⟨v, rfl, hv, hb⟩ := copy_post hp (List.append_nil l))
  go_ret
  exact ⟨_, rfl, hv, hb⟩

set_option maxHeartbeats 2000000 in
set_option maxRecDepth 100000 in
theorem prog_grow_rul (n : Nat) (w : World) (hn : n ≤ 1099511627776) :
    Calls Try.prog 135 #[.slice none 0 0, .int .i64 n] w (GrowPost w 57 8) := by
  obtain ⟨i0, hi0, hz0, hs0, hb0⟩ := info_parts rulInfo
  have h1 : ¬ ((n : Int) < 0) := by omega
  have h2 : wrap64 ((n : Int) - 0) = n := by unfold wrap64; omega
  by_cases h0 : n = 0
  · subst h0
    go_enter Try.func135, Try.ntmps135
    go_wp2_with fail
    go_ret
    exact ⟨_, rfl, World.ownsRow_nil _ _ _ _, Below.refl _ _⟩
  · have h4 : (n : Int) > 0 := by omega
    have hrz : ∃ W G, n ≤ G ∧ G ≤ maxLen ∧ (∀ ty, (Builtin.append_ #[33, 3] ty #[.slice none 0 0, .int .i64 (n : Int)]).run Try.prog w = .ok (.slice (some ⟨w.heap.size, 0, none⟩) n G) W) ∧ GrowPost w 57 8 (.returned (.slice (some ⟨w.heap.size, 0, none⟩) 0 G)) W := by
      refine ⟨w.drew.alloc (.cells (([] : List Value).toArray ++ Builtin.zeroCells (Value.cells (.agg #[.string ⟨#[]⟩, .int .i64 0, .slice none 0 0, .int .i64 0, .int .i64 0, .string ⟨#[]⟩, .string ⟨#[]⟩, .string ⟨#[]⟩])) n ++ Builtin.zeroCells (Value.cells (.agg #[.string ⟨#[]⟩, .int .i64 0, .slice none 0 0, .int .i64 0, .int .i64 0, .string ⟨#[]⟩, .string ⟨#[]⟩, .string ⟨#[]⟩])) (grownCap w (0 + n) 0 57 - (0 + n))) 57), grownCap w (0 + n) 0 57, ?_, ?_, fun ty => ?_, grow_own w 57 8 (.agg #[.string ⟨#[]⟩, .int .i64 0, .slice none 0 0, .int .i64 0, .int .i64 0, .string ⟨#[]⟩, .string ⟨#[]⟩, .string ⟨#[]⟩]) n rfl hn⟩
      · have := grownCap_ge w (0 + n) 0 57; omega
      · exact grownCap_le_maxLen w (0 + n) 0 57 (by unfold maxLen; omega)
      · have h := Lib.run_append_grow_zeros w 33 3 ty 57 i0 _ .i64 .i64 Try.underlying33 Try.underlying3 hi0 hz0 none 0 0 [] (run_firstCells_none w.drew i0.size 0 0 0) n (by omega) (by rw [hs0]; omega) (by omega) (by omega) (by rw [hb0]; omega) (by rw [hb0]; exact growslice_fits (by omega) (by omega))
        rw [h, Nat.zero_add]
    obtain ⟨W, G, hG1, hG2, hrz, hp⟩ := hrz
    unfold maxLen at hG2
    have HP := Lib.hid hp
    clear hp
    go_enter Try.func135, Try.ntmps135
    go_wp2_with (at_builtin; refine Lib.wpList_append_run _ rfl _ _ _ _ rfl _ _ rfl rfl _ _ (hrz _) ?_)
    all_goals (go_ret; exact HP.out)

set_option maxHeartbeats 4000000 in
set_option maxRecDepth 100000 in
theorem prog_concat_rul (a : Option Addr) (n c : Nat) (S : Nat → Prop) (ls : List (List Rul)) (w : World) (h : Lst w (· < w.heap.size) (lstP rulP w S 8) 1 (.slice a n c) ls) (hS : ∀ k, S k → k < w.heap.size) (hN : (lenT ls) ≤ 1099511627776) :
    Calls Try.prog 122 #[.slice a n c] w (ConcatPost rulP w S 57 8 ls.flatten) := by
  obtain ⟨hl, hc, hm⟩ := h.len
  unfold maxLen at hm
  have HL := Lib.hid hl
  have HH := Lib.hid h
  have HS := Lib.hid hS
  obtain ⟨i0, hi0, hz0, hs0, hb0⟩ := info_parts rulInfo
  have HI := Lib.hid (And.intro hi0 (And.intro hz0 (And.intro hs0 hb0)))
  clear h hl hS hi0 hz0 hs0 hb0
  go_enter Try.func122, Try.ntmps122
  go_wp2_with fail
  go_loop [3, 5, 11] (fun q _ i => ∃ k : Nat, k ≤ n ∧ q = .int .i64 (lenT (ls.take k) : Nat) ∧ i = .int .i64 k) (fun _ _ i => n - (intOf i).toNat)
  case atStart => exact ⟨0, Nat.zero_le _, by rw [List.take_zero]; rfl, rfl⟩
  case round =>
    obtain ⟨k, hk, rfl, rfl⟩ := hrel
    by_cases hlt : k < n
    · have lk : k < ls.length := by rw [HL.out]; exact hlt
      obtain ⟨b, o, x, rfl, hbB, ⟨v, hx, hv⟩, hcl⟩ := HH.out.at lk
      have hsum := lenT_take lk
      have hle := lenT_le ls (k + 1)
      have k0 : (0 : Int) ≤ (k : Int) := by omega
      have k1 : (k : Int) < (n : Int) := by omega
      obtain ⟨va, vc, rfl, _, _⟩ := hv.form
      generalize ls[k] = y at *
      subst hx
      have c0 : w.cell? ⟨b, o + k, none⟩ = some (.slice va y.length vc) := by have := hcl 0 _ rfl; simpa using this
      clear hcl hv
      obtain ⟨q', hq'⟩ : ∃ q', lenT (ls.take (k + 1)) = q' := ⟨_, rfl⟩
      rw [hq'] at hsum hle
      have HSUM := Lib.hid hsum
      have HQ := Lib.hid hq'
      clear hq'
      generalize lenT (ls.take k) = q at *
      generalize y.length = m at *
      have e1 : wrap64 ((q : Int) + (m : Int)) = (q' : Int) := by have := HSUM.out; unfold wrap64; omega
      have e2 : ¬ ((q' : Int) < 0) := Int.not_lt.2 (Int.natCast_nonneg q')
      clear hsum
      go_wp2_with fail
      go_round
      case rel => exact ⟨k + 1, by omega, by rw [HQ.out]; go_num, by go_num⟩
      case measure => simp [intOf]; omega
    · obtain rfl : n = k := by omega
      have HAL := Lib.hid (show ls.take n = ls by rw [List.take_of_length_le]; have := HL.out; omega)
      have HT := Lib.hid (show lenT (ls.take n) ≤ 1099511627776 by rw [HAL.out]; exact hN)
      generalize lenT (ls.take n) = q at *
      go_wp2_with (go_at_call 135; refine (prog_grow_rul _ _ HT.out).mono ?_; rintro e w' ⟨v1, rfl, hv1, hb1⟩)
      have HV1 := Lib.hid hv1; have HB1 := Lib.hid hb1
      clear hv1 hb1
      go_loopw [6, 8, 27] (fun v _ i wr => ∃ k : Nat, k ≤ n ∧ i = .int .i64 k ∧ OwnR rulP wr S w.heap.size 57 8 v (ls.take k).flatten ∧ Below w.heap.size w wr) (fun _ _ i _ => n - (intOf i).toNat)
      case atStart => exact ⟨0, Nat.zero_le _, rfl, ⟨[], by rw [List.take_zero]; exact HV1.out, by simp, fun i x y h => by simp at h⟩, HB1.out⟩
      case round =>
        obtain ⟨k, hk, rfl, hv, hbw⟩ := hrel
        have HV := Lib.hid hv
        have HBW := Lib.hid hbw
        by_cases hlt : k < n
        · have lk : k < ls.length := by rw [HL.out]; exact hlt
          obtain ⟨b, o, x, rfl, hbB, ⟨v, hx, hv2⟩, hcl⟩ := HH.out.at lk
          have hft := flat_take lk
          have hsum := lenT_take lk
          have hle := lenT_le ls (k + 1)
          have k0 : (0 : Int) ≤ (k : Int) := by omega
          have k1 : (k : Int) < (n : Int) := by omega
          have hv3 : Lst wr S (rulP wr S) 8 v ls[k] := hv2.keep (fun _ h => h) (Keeps.of_below hbw HS.out) fun x y _ h => rul_stays.keep h (fun _ h => h) (Keeps.of_below hbw HS.out)
          obtain ⟨va, vc, rfl, _, _⟩ := hv2.form
          have hlen : (ls.take k).flatten.length + ls[k].length ≤ 1099511627776 := by
            unfold lenT at hsum hle hN; omega
          have HFT := Lib.hid hft; have HLEN := Lib.hid hlen; have HV3 := Lib.hid hv3
          clear hft hsum hle hlen hv3 hv2 hv
          subst hx
          have c0 : wr.cell? ⟨b, o + k, none⟩ = some (.slice va ls[k].length vc) := (hbw.cell (p := ⟨b, o + k, none⟩) hbB).trans (by have := hcl 0 _ rfl; simpa using this)
          clear hcl hbw
          generalize ls[k] = y at *
          obtain ⟨m, hm2⟩ : ∃ m, y.length = m := ⟨_, rfl⟩
          rw [hm2] at c0 HV3 HLEN
          clear hm2
          obtain ⟨i0, ci, cz0, cz1, cz2⟩ := info_parts rulInfo
          go_wp2_with (at_builtin; refine wpList_append_more rfl _ _ 33 rfl w.heap.size 57 i0 _ 8 112 Try.underlying33 ci cz0 cz1 cz2 rfl (by decide) rul_stays rfl HV.out HS.out rfl HV3.out ?c1 ?c2 ?c3 ?_)
          case c1 => have := HLEN.out; unfold maxLen; omega
          case c2 => have := HLEN.out; omega
          case c3 => exact HBW.out.size
          intro v4 w4 hv4 hb4
          have HV4 := Lib.hid hv4
          go_wp2_with fail
          go_roundw
          case rel => exact ⟨k + 1, by omega, by go_num, by rw [HFT.out]; exact HV4.out, HBW.out.trans hb4⟩
          case measure => simp [intOf]; omega
        · obtain rfl : n = k := by omega
          go_wp2_with fail
          go_ret
          exact ⟨_, rfl, by rw [← HAL.out]; exact HV.out, HBW.out⟩

set_option maxHeartbeats 4000000 in
theorem prog_copylist_rul (a : Option Addr) (n c : Nat) (S : Nat → Prop) (l : List Rul) (w : World) (h : Lst w S (rulP w S) 8 (.slice a n c) l) (hS : ∀ k, S k → k < w.heap.size) (hN : n ≤ 1099511627776) :
    Calls Try.prog 95 #[.slice a n c] w (ConcatPost rulP w S 57 8 l) := by
  have HL := h.len.1
  have HC := Lib.hid (prog_concat_rul (some ⟨w.heap.size, 0, none⟩) 1 1 S [l] (w.alloc (.cells #[.slice a n c] 33)) (listed rul_stays [.slice a n c] [l] 33 rfl (show 1 ≤ maxLen by unfold maxLen; decide) hS fun i v y hi hy => by
      cases i with
      | zero => simp only [List.getElem?_cons_zero, Option.some.injEq] at hi hy; subst hi hy; exact h
      | succ i => simp at hi)
    (fun k hk => by have := hS k hk; rw [show (w.alloc (.cells #[.slice a n c] 33)).heap.size = w.heap.size + 1 by simp]; omega) (by unfold lenT; simp only [List.flatten_cons, List.flatten_nil, List.append_nil]; omega))
  clear h hS HL
  go_enter Try.func95, Try.ntmps95
  go_wp2_with (go_at_call 122; refine HC.out.mono ?_; intro e w' hp; obtain ⟨v, rfl, hv, hb⟩ := copy_post hp (List.append_nil l))
  go_ret
  exact ⟨_, rfl, hv, hb⟩

set_option maxHeartbeats 2000000 in
set_option maxRecDepth 100000 in
theorem prog_grow_tab (n : Nat) (w : World) (hn : n ≤ 1099511627776) :
    Calls Try.prog 132 #[.slice none 0 0, .int .i64 n] w (GrowPost w 35 5) := by
  obtain ⟨i0, hi0, hz0, hs0, hb0⟩ := info_parts tabInfo
  have h1 : ¬ ((n : Int) < 0) := by omega
  have h2 : wrap64 ((n : Int) - 0) = n := by unfold wrap64; omega
  by_cases h0 : n = 0
  · subst h0
    go_enter Try.func132, Try.ntmps132
    go_wp2_with fail
    go_ret
    exact ⟨_, rfl, World.ownsRow_nil _ _ _ _, Below.refl _ _⟩
  · have h4 : (n : Int) > 0 := by omega
    have hrz : ∃ W G, n ≤ G ∧ G ≤ maxLen ∧ (∀ ty, (Builtin.append_ #[24, 3] ty #[.slice none 0 0, .int .i64 (n : Int)]).run Try.prog w = .ok (.slice (some ⟨w.heap.size, 0, none⟩) n G) W) ∧ GrowPost w 35 5 (.returned (.slice (some ⟨w.heap.size, 0, none⟩) 0 G)) W := by
      refine ⟨w.drew.alloc (.cells (([] : List Value).toArray ++ Builtin.zeroCells (Value.cells (.agg #[.string ⟨#[]⟩, .string ⟨#[]⟩, .string ⟨#[]⟩, .slice none 0 0, .slice none 0 0])) n ++ Builtin.zeroCells (Value.cells (.agg #[.string ⟨#[]⟩, .string ⟨#[]⟩, .string ⟨#[]⟩, .slice none 0 0, .slice none 0 0])) (grownCap w (0 + n) 0 35 - (0 + n))) 35), grownCap w (0 + n) 0 35, ?_, ?_, fun ty => ?_, grow_own w 35 5 (.agg #[.string ⟨#[]⟩, .string ⟨#[]⟩, .string ⟨#[]⟩, .slice none 0 0, .slice none 0 0]) n rfl hn⟩
      · have := grownCap_ge w (0 + n) 0 35; omega
      · exact grownCap_le_maxLen w (0 + n) 0 35 (by unfold maxLen; omega)
      · have h := Lib.run_append_grow_zeros w 24 3 ty 35 i0 _ .i64 .i64 Try.underlying24 Try.underlying3 hi0 hz0 none 0 0 [] (run_firstCells_none w.drew i0.size 0 0 0) n (by omega) (by rw [hs0]; omega) (by omega) (by omega) (by rw [hb0]; omega) (by rw [hb0]; exact growslice_fits (by omega) (by omega))
        rw [h, Nat.zero_add]
    obtain ⟨W, G, hG1, hG2, hrz, hp⟩ := hrz
    unfold maxLen at hG2
    have HP := Lib.hid hp
    clear hp
    go_enter Try.func132, Try.ntmps132
    go_wp2_with (at_builtin; refine Lib.wpList_append_run _ rfl _ _ _ _ rfl _ _ rfl rfl _ _ (hrz _) ?_)
    all_goals (go_ret; exact HP.out)

set_option maxHeartbeats 4000000 in
set_option maxRecDepth 100000 in
theorem prog_concat_tab (a : Option Addr) (n c : Nat) (S : Nat → Prop) (ls : List (List Tab)) (w : World) (h : Lst w (· < w.heap.size) (lstP tabP w S 5) 1 (.slice a n c) ls) (hS : ∀ k, S k → k < w.heap.size) (hN : (lenT ls) ≤ 1099511627776) :
    Calls Try.prog 108 #[.slice a n c] w (ConcatPost tabP w S 35 5 ls.flatten) := by
  obtain ⟨hl, hc, hm⟩ := h.len
  unfold maxLen at hm
  have HL := Lib.hid hl
  have HH := Lib.hid h
  have HS := Lib.hid hS
  obtain ⟨i0, hi0, hz0, hs0, hb0⟩ := info_parts tabInfo
  have HI := Lib.hid (And.intro hi0 (And.intro hz0 (And.intro hs0 hb0)))
  clear h hl hS hi0 hz0 hs0 hb0
  go_enter Try.func108, Try.ntmps108
  go_wp2_with fail
  go_loop [3, 5, 11] (fun q _ i => ∃ k : Nat, k ≤ n ∧ q = .int .i64 (lenT (ls.take k) : Nat) ∧ i = .int .i64 k) (fun _ _ i => n - (intOf i).toNat)
  case atStart => exact ⟨0, Nat.zero_le _, by rw [List.take_zero]; rfl, rfl⟩
  case round =>
    obtain ⟨k, hk, rfl, rfl⟩ := hrel
    by_cases hlt : k < n
    · have lk : k < ls.length := by rw [HL.out]; exact hlt
      obtain ⟨b, o, x, rfl, hbB, ⟨v, hx, hv⟩, hcl⟩ := HH.out.at lk
      have hsum := lenT_take lk
      have hle := lenT_le ls (k + 1)
      have k0 : (0 : Int) ≤ (k : Int) := by omega
      have k1 : (k : Int) < (n : Int) := by omega
      obtain ⟨va, vc, rfl, _, _⟩ := hv.form
      generalize ls[k] = y at *
      subst hx
      have c0 : w.cell? ⟨b, o + k, none⟩ = some (.slice va y.length vc) := by have := hcl 0 _ rfl; simpa using this
      clear hcl hv
      obtain ⟨q', hq'⟩ : ∃ q', lenT (ls.take (k + 1)) = q' := ⟨_, rfl⟩
      rw [hq'] at hsum hle
      have HSUM := Lib.hid hsum
      have HQ := Lib.hid hq'
      clear hq'
      generalize lenT (ls.take k) = q at *
      generalize y.length = m at *
      have e1 : wrap64 ((q : Int) + (m : Int)) = (q' : Int) := by have := HSUM.out; unfold wrap64; omega
      have e2 : ¬ ((q' : Int) < 0) := Int.not_lt.2 (Int.natCast_nonneg q')
      clear hsum
      go_wp2_with fail
      go_round
      case rel => exact ⟨k + 1, by omega, by rw [HQ.out]; go_num, by go_num⟩
      case measure => simp [intOf]; omega
    · obtain rfl : n = k := by omega
      have HAL := Lib.hid (show ls.take n = ls by rw [List.take_of_length_le]; have := HL.out; omega)
      have HT := Lib.hid (show lenT (ls.take n) ≤ 1099511627776 by rw [HAL.out]; exact hN)
      generalize lenT (ls.take n) = q at *
      go_wp2_with (go_at_call 132; refine (prog_grow_tab _ _ HT.out).mono ?_; rintro e w' ⟨v1, rfl, hv1, hb1⟩)
      have HV1 := Lib.hid hv1; have HB1 := Lib.hid hb1
      clear hv1 hb1
      go_loopw [6, 8, 27] (fun v _ i wr => ∃ k : Nat, k ≤ n ∧ i = .int .i64 k ∧ OwnR tabP wr S w.heap.size 35 5 v (ls.take k).flatten ∧ Below w.heap.size w wr) (fun _ _ i _ => n - (intOf i).toNat)
      case atStart => exact ⟨0, Nat.zero_le _, rfl, ⟨[], by rw [List.take_zero]; exact HV1.out, by simp, fun i x y h => by simp at h⟩, HB1.out⟩
      case round =>
        obtain ⟨k, hk, rfl, hv, hbw⟩ := hrel
        have HV := Lib.hid hv
        have HBW := Lib.hid hbw
        by_cases hlt : k < n
        · have lk : k < ls.length := by rw [HL.out]; exact hlt
          obtain ⟨b, o, x, rfl, hbB, ⟨v, hx, hv2⟩, hcl⟩ := HH.out.at lk
          have hft := flat_take lk
          have hsum := lenT_take lk
          have hle := lenT_le ls (k + 1)
          have k0 : (0 : Int) ≤ (k : Int) := by omega
          have k1 : (k : Int) < (n : Int) := by omega
          have hv3 : Lst wr S (tabP wr S) 5 v ls[k] := hv2.keep (fun _ h => h) (Keeps.of_below hbw HS.out) fun x y _ h => tab_stays.keep h (fun _ h => h) (Keeps.of_below hbw HS.out)
          obtain ⟨va, vc, rfl, _, _⟩ := hv2.form
          have hlen : (ls.take k).flatten.length + ls[k].length ≤ 1099511627776 := by
            unfold lenT at hsum hle hN; omega
          have HFT := Lib.hid hft; have HLEN := Lib.hid hlen; have HV3 := Lib.hid hv3
          clear hft hsum hle hlen hv3 hv2 hv
          subst hx
          have c0 : wr.cell? ⟨b, o + k, none⟩ = some (.slice va ls[k].length vc) := (hbw.cell (p := ⟨b, o + k, none⟩) hbB).trans (by have := hcl 0 _ rfl; simpa using this)
          clear hcl hbw
          generalize ls[k] = y at *
          obtain ⟨m, hm2⟩ : ∃ m, y.length = m := ⟨_, rfl⟩
          rw [hm2] at c0 HV3 HLEN
          clear hm2
          obtain ⟨i0, ci, cz0, cz1, cz2⟩ := info_parts tabInfo
          go_wp2_with (at_builtin; refine wpList_append_more rfl _ _ 24 rfl w.heap.size 35 i0 _ 5 96 Try.underlying24 ci cz0 cz1 cz2 rfl (by decide) tab_stays rfl HV.out HS.out rfl HV3.out ?c1 ?c2 ?c3 ?_)
          case c1 => have := HLEN.out; unfold maxLen; omega
          case c2 => have := HLEN.out; omega
          case c3 => exact HBW.out.size
          intro v4 w4 hv4 hb4
          have HV4 := Lib.hid hv4
          go_wp2_with fail
          go_roundw
          case rel => exact ⟨k + 1, by omega, by go_num, by rw [HFT.out]; exact HV4.out, HBW.out.trans hb4⟩
          case measure => simp [intOf]; omega
        · obtain rfl : n = k := by omega
          go_wp2_with fail
          go_ret
          exact ⟨_, rfl, by rw [← HAL.out]; exact HV.out, HBW.out⟩

set_option maxHeartbeats 4000000 in
theorem prog_copylist_tab (a : Option Addr) (n c : Nat) (S : Nat → Prop) (l : List Tab) (w : World) (h : Lst w S (tabP w S) 5 (.slice a n c) l) (hS : ∀ k, S k → k < w.heap.size) (hN : n ≤ 1099511627776) :
    Calls Try.prog 125 #[.slice a n c] w (ConcatPost tabP w S 35 5 l) := by
  have HL := h.len.1
  have HC := Lib.hid (prog_concat_tab (some ⟨w.heap.size, 0, none⟩) 1 1 S [l] (w.alloc (.cells #[.slice a n c] 24)) (listed tab_stays [.slice a n c] [l] 24 rfl (show 1 ≤ maxLen by unfold maxLen; decide) hS fun i v y hi hy => by
      cases i with
      | zero => simp only [List.getElem?_cons_zero, Option.some.injEq] at hi hy; subst hi hy; exact h
      | succ i => simp at hi)
    (fun k hk => by have := hS k hk; rw [show (w.alloc (.cells #[.slice a n c] 24)).heap.size = w.heap.size + 1 by simp]; omega) (by unfold lenT; simp only [List.flatten_cons, List.flatten_nil, List.append_nil]; omega))
  clear h hS HL
  go_enter Try.func125, Try.ntmps125
  go_wp2_with (go_at_call 108; refine HC.out.mono ?_; intro e w' hp; obtain ⟨v, rfl, hv, hb⟩ := copy_post hp (List.append_nil l))
  go_ret
  exact ⟨_, rfl, hv, hb⟩
end

section
/-! Layer 7, the program, by contract: copyRule. -/
set_option linter.unusedVariables false
open Go.RowKit Go.Sort Go.Shelf

/-- A rule's cells. -/
abbrev rulA (r : Rul) (v : Value) : Array Value := #[.string r.name, .int .i64 r.kind, v, .int .i64 r.low, .int .i64 r.high, .string r.schema, .string r.table, .string r.key]
def RulePost (w : World) (r : Rul) (e : Ending) (w' : World) : Prop :=
  ∃ a c, e = .returned (.agg (rulA r (.slice a r.cols.length c))) ∧ OwnX strQ w' w.heap.size 9 1 (.slice a r.cols.length c) r.cols ∧ Below w.heap.size w w'

set_option maxRecDepth 100000 in
set_option maxHeartbeats 8000000 in
theorem prog_copyrule_any (B : Nat) (r : Rul) (v : Value) (w : World) (h : Lst w (· < B) strP 1 v r.cols) (hB : B ≤ w.heap.size) (hN : r.cols.length ≤ 3000) :
    Calls Try.prog 96 #[.agg #[.string r.name, .int .i64 r.kind, v, .int .i64 r.low, .int .i64 r.high, .string r.schema, .string r.table, .string r.key]] w (RulePost w r) := by
  obtain ⟨sa, sc, rfl, _, _⟩ := h.form
  obtain ⟨n, hn⟩ : ∃ n, r.cols.length = n := ⟨_, rfl⟩
  rw [hn] at h hN ⊢
  have hrow1 := heap_alloc_new (w.alloc (.cells #[.string r.name, .int .i64 r.kind, .slice sa n sc, .int .i64 r.low, .int .i64 r.high, .string r.schema, .string r.table, .string r.key] 57)) (.cells #[.string ⟨#[]⟩, .int .i64 0, .slice none 0 0, .int .i64 0, .int .i64 0, .string ⟨#[]⟩, .string ⟨#[]⟩, .string ⟨#[]⟩] 57)
  have hs0 : (w.alloc (.cells #[.string r.name, .int .i64 r.kind, .slice sa n sc, .int .i64 r.low, .int .i64 r.high, .string r.schema, .string r.table, .string r.key] 57)).heap.size = w.heap.size + 1 := by simp
  rw [hs0] at hrow1
  have hrow : ((w.alloc (.cells #[.string r.name, .int .i64 r.kind, .slice sa n sc, .int .i64 r.low, .int .i64 r.high, .string r.schema, .string r.table, .string r.key] 57)).alloc (.cells #[.string ⟨#[]⟩, .int .i64 0, .slice none 0 0, .int .i64 0, .int .i64 0, .string ⟨#[]⟩, .string ⟨#[]⟩, .string ⟨#[]⟩] 57)).heap[w.heap.size]? = some (.cells #[.string r.name, .int .i64 r.kind, .slice sa n sc, .int .i64 r.low, .int .i64 r.high, .string r.schema, .string r.table, .string r.key] 57 (0, 0)) := by
    rw [Below.heap_alloc _ _ _ (by simp)]
    exact heap_alloc_new w _
  have hsz : ((w.alloc (.cells #[.string r.name, .int .i64 r.kind, .slice sa n sc, .int .i64 r.low, .int .i64 r.high, .string r.schema, .string r.table, .string r.key] 57)).alloc (.cells #[.string ⟨#[]⟩, .int .i64 0, .slice none 0 0, .int .i64 0, .int .i64 0, .string ⟨#[]⟩, .string ⟨#[]⟩, .string ⟨#[]⟩] 57)).heap.size = w.heap.size + 2 := by simp
  have hbw : Below w.heap.size w ((w.alloc (.cells #[.string r.name, .int .i64 r.kind, .slice sa n sc, .int .i64 r.low, .int .i64 r.high, .string r.schema, .string r.table, .string r.key] 57)).alloc (.cells #[.string ⟨#[]⟩, .int .i64 0, .slice none 0 0, .int .i64 0, .int .i64 0, .string ⟨#[]⟩, .string ⟨#[]⟩, .string ⟨#[]⟩] 57)) :=
    ((Below.refl _ w).alloc (Nat.le_refl _) _).alloc (by simp) _
  have x2 := box_at hrow 2 rfl
  have HC := Lib.hid (prog_copylist_str sa n sc (· < B) r.cols _ (strs_keep h (fun _ h => h) (Keeps.of_below hbw (S := (· < B)) fun k hk => Nat.lt_of_lt_of_le hk hB)) (fun k hk => by rw [hsz]; omega) (by omega))
  have HR := Lib.hid hrow; have HR1 := Lib.hid hrow1; have HSZ := Lib.hid hsz; have HBW := Lib.hid hbw; have HN := Lib.hid hn
  clear h hn hrow hrow1 hsz hbw hs0
  go_enter Try.func96, Try.ntmps96
  go_wp2_with (first
    | (go_at_call 123
       refine HC.out.mono ?_
       rintro e w2 ⟨nv, rfl, hv, hb2⟩
       rw [HSZ.out] at hv hb2
       obtain ⟨na, nc, rfl, _, _⟩ := hv.form
       rw [HN.out] at hv ⊢
       have hv2 := hv.flat (fun h => h)
       have y0 := (hb2.block w.heap.size (by omega)).trans HR.out
       have y1 := (hb2.block (w.heap.size + 1) (by omega)).trans HR1.out
       have d0 := box_at y0 0 rfl
       have d1 := box_at y0 1 rfl
       have d2 := box_at y0 2 rfl
       have d3 := box_at y0 3 rfl
       have d4 := box_at y0 4 rfl
       have d5 := box_at y0 5 rfl
       have d6 := box_at y0 6 rfl
       have d7 := box_at y0 7 rfl
       have dz := frozen_of_row w2 w.heap.size 2 _ _ y0
       have hk1 : Keeps (· ≠ w.heap.size) w2 (w2.setCell ⟨w.heap.size, 2, none⟩ (.slice na n nc)) := Keeps.refl.setCell (by simp) _
       have HG := Lib.hid (hk1.row y1 (by omega))
       have HI : Hid ((Try.prog.info? 57).map (·.size) = some 8) := Lib.hid (by kernel_rfl)
       have HO : Hid ((#[.string r.name, .int .i64 r.kind, .slice na n nc, .int .i64 r.low, .int .i64 r.high, .string r.schema, .string r.table, .string r.key] : Array Value).all (·.oneCell') = true) := Lib.hid (by kernel_rfl)
       have HROW := Lib.hid (setRow_heap _ _ _ #[.string r.name, .int .i64 r.kind, .slice na n nc, .int .i64 r.low, .int .i64 r.high, .string r.schema, .string r.table, .string r.key] _ _ HG.out)
       have hkB : Keeps (fun j => j ≠ w.heap.size ∧ j ≠ w.heap.size + 1) w2 ((w2.setCell ⟨w.heap.size, 2, none⟩ (.slice na n nc)).setRow (w.heap.size + 1) #[.string r.name, .int .i64 r.kind, .slice na n nc, .int .i64 r.low, .int .i64 r.high, .string r.schema, .string r.table, .string r.key]) :=
         (hk1.mono fun j hj => hj.1).trans ⟨rfl, rfl, rfl, by simp, fun j _ hj => setRow_other _ _ _ _ hj.2⟩
       have HKB := Lib.hid hkB; have HV := Lib.hid hv2; have HB2 := Lib.hid hb2
       clear hv hv2 hb2 y0 y1 hk1 hkB)
    | (refine wpList_store_box rfl 57 _ _ rfl (w.heap.size + 1) 57 _ #[.string r.name, .int .i64 r.kind, .slice na n nc, .int .i64 r.low, .int .i64 r.high, .string r.schema, .string r.table, .string r.key] rfl rfl HG.out HI.out rfl HO.out ?_))
  refine bodyPost_ret (results_cell_row rfl _ _ (w.heap.size + 1) _ _ (0, 0) _ rfl HROW.out Try.underlying57 rfl HI.out) rfl ?_
  have hw2 := HB2.out.size
  rw [HSZ.out] at hw2
  refine ⟨na, nc, by rw [HN.out], by rw [HN.out]; exact ((HV.out.keep str_stays HKB.out fun j hj => by have := hj.1; omega).mono str_stays (by omega)), (HBW.out.trans (HB2.out.mono (by omega))).trans (HKB.out.below (by omega) fun j hj => by omega)⟩
end

section
/-! Layer 7, the program: a row of one's own whose elements are made one's own, one by one, in their places. -/
set_option linter.unusedVariables false
open Go.RowKit Go.Sort Go.Shelf

def setL (xs : List Value) : Nat → List Value → List Value
  | _, [] => xs
  | o, v :: r => setL (xs.set o v) (o + 1) r
theorem keeps_setCells {g : Nat} : ∀ (vs : List Value) (o : Nat) (w : World), Keeps (· ≠ g) w (w.setCells g o vs)
  | [], _, _ => Keeps.refl
  | v :: r, o, w => (Keeps.refl.setCell (p := ⟨g, o, none⟩) (by simp) v).trans (keeps_setCells r (o + 1) _)
theorem soft_setCells {g k : Nat} : ∀ (vs : List Value) (o : Nat) (w : World), Soft w k → Soft (w.setCells g o vs) k
  | [], _, _, h => h
  | v :: r, o, w, h => soft_setCells r (o + 1) _ (h.setCell ⟨g, o, none⟩ v rfl)
theorem own_setCells {B : Nat} {e : TypeId} {sz g n cap : Nat} : ∀ (vs : List Value) (o : Nat) (w : World) (xs : List Value), w.ownsRow B e sz (.slice (some ⟨g, 0, none⟩) n cap) n xs →
    (w.setCells g o vs).ownsRow B e sz (.slice (some ⟨g, 0, none⟩) n cap) n (setL xs o vs)
  | [], _, _, _, h => h
  | v :: r, o, w, xs, h => own_setCells r (o + 1) _ _ (h.stored o v).1
theorem setL_flat {sz k : Nat} : ∀ (r : List Value) (j : Nat) (xss : List (List Value)), (∀ x ∈ xss, x.length = sz) → (hk : k < xss.length) → j + r.length = sz → setL xss.flatten (k * sz + j) r = (xss.set k (xss[k].take j ++ r)).flatten
  | [], j, xss, h, hk, hj => by
    have hx := h _ (List.getElem_mem hk)
    simp only [List.length_nil, Nat.add_zero] at hj
    rw [List.append_nil, List.take_of_length_le (by omega), List.set_getElem_self]
    rfl
  | v :: r, j, xss, h, hk, hj => by
    simp only [List.length_cons] at hj
    have hx := h _ (List.getElem_mem hk)
    show setL (xss.flatten.set (k * sz + j) v) (k * sz + j + 1) r = _
    rw [flat_set h hk (by omega), Nat.add_assoc]
    rw [setL_flat r (j + 1) (xss.set k (xss[k].set j v)) (fun x hx' => by
      rcases List.mem_or_eq_of_mem_set hx' with h1 | h1
      · exact h x h1
      · rw [h1, List.length_set]; exact hx) (by rw [List.length_set]; exact hk) (by omega)]
    rw [List.set_set, List.getElem_set_self]
    congr 2
    rw [List.take_add_one, List.getElem?_set_self (by omega), List.take_set_of_le (Nat.le_refl j)]
    simp
section
variable {α : Type} {Q : Elem α} {w w' : World} {S : Nat → Prop} {B : Nat} {e : TypeId} {sz : Nat} {v : Value} {l : List α}
/-- The first k elements are one's own already; the others lead to blocks of S. -/
def MixX (Q : Elem α) (w : World) (S : Nat → Prop) (B : Nat) (e : TypeId) (sz : Nat) (v : Value) (l : List α) (k : Nat) : Prop :=
  ∃ xss : List (List Value), w.ownsRow B e sz v l.length xss.flatten ∧ xss.length = l.length ∧
    ∀ (i : Nat) x y, xss[i]? = some x → l[i]? = some y → (i < k → Q w (fun j => Sf B w j ∧ v.ownBlock ≠ some j) x y) ∧ (k ≤ i → Q w S x y)
theorem MixX.start (h : OwnR Q w S B e sz v l) : MixX Q w S B e sz v l 0 := by
  obtain ⟨xss, h1, h2, h3⟩ := h
  exact ⟨xss, h1, h2, fun i x y hx hy => ⟨fun h => by omega, fun _ => h3 i x y hx hy⟩⟩
theorem MixX.done {k : Nat} (h : MixX Q w S B e sz v l k) (hk : l.length ≤ k) : OwnX Q w B e sz v l := by
  obtain ⟨xss, h1, h2, h3⟩ := h
  exact ⟨xss, h1, h2, fun i x y hx hy => (h3 i x y hx hy).1 (by have := (List.getElem?_eq_some_iff.1 hy).1; omega)⟩
theorem MixX.form {k : Nat} (h : MixX Q w S B e sz v l k) : ∃ a cap, v = .slice a l.length cap ∧ l.length ≤ cap ∧ cap ≤ maxLen := by
  obtain ⟨xss, ⟨_, ⟨rfl, h0⟩ | ⟨g, cap, cur, rfl, _, _, h1, h2, _⟩⟩, _⟩ := h
  · exact ⟨none, 0, by rw [h0], by omega, by unfold maxLen; omega⟩
  · exact ⟨_, cap, rfl, h1, h2⟩
theorem MixX.block {k : Nat} (h : MixX Q w S B e sz v l k) {g : Nat} (hg : v.ownBlock = some g) : Sf B w g := by
  obtain ⟨xss, ⟨_, ⟨rfl, h0⟩ | ⟨g', cap, cur, rfl, hb, hc, h1, h2, _⟩⟩, _⟩ := h
  · cases hg
  · cases hg
    exact ⟨hb, _, _, hc⟩
theorem MixX.at {k : Nat} (h : MixX Q w S B e sz v l k) (hQ : Stays Q sz) (hk : k < l.length) : ∃ g cap x, v = .slice (some ⟨g, 0, none⟩) l.length cap ∧ l.length ≤ cap ∧ cap ≤ maxLen ∧ Sf B w g ∧ Q w S x l[k] ∧ ∀ j u, x[j]? = some u → w.cell? ⟨g, k * sz + j, none⟩ = some u := by
  have hb := fun g hg => h.block (g := g) hg
  obtain ⟨a, cap, rfl, hc1, hc2⟩ := h.form
  obtain ⟨xss, hown, hlen, hel⟩ := h
  obtain ⟨g, cap', he, _, _⟩ := hown.form (by omega)
  cases he
  have hxk : xss[k]? = some (xss[k]'(by omega)) := List.getElem?_eq_getElem (by omega)
  refine ⟨g, cap, _, rfl, hc1, hc2, hb g rfl, (hel k _ _ hxk (List.getElem?_eq_getElem hk)).2 (Nat.le_refl _), fun j u hu => ?_⟩
  have hsz : ∀ x ∈ xss, x.length = sz := by
    intro x hx
    obtain ⟨i, hi, rfl⟩ := List.mem_iff_getElem.1 hx
    by_cases hik : i < k
    · exact hQ.size ((hel i _ l[i] (List.getElem?_eq_getElem hi) (List.getElem?_eq_getElem (by omega))).1 hik)
    · exact hQ.size ((hel i _ l[i] (List.getElem?_eq_getElem hi) (List.getElem?_eq_getElem (by omega))).2 (by omega))
  have hj : j < sz := by have := (List.getElem?_eq_some_iff.1 hu).1; rw [hsz _ (List.getElem_mem _)] at this; exact this
  obtain ⟨hf1, hf2⟩ := flat_at hsz
  have h4 := hf2 k
  rw [hxk, Option.getD_some] at h4
  have hjn : k * sz + j < l.length * sz := by
    have := Nat.mul_le_mul_right sz (show k + 1 ≤ l.length by omega)
    rw [Nat.succ_mul] at this
    omega
  rw [hown.cellAt _ hjn]
  rw [← h4, List.getElem?_take, if_pos hj, List.getElem?_drop] at hu
  exact hu
/-- The next element is laid in its place. -/
theorem MixX.next {g cap k : Nat} (h : MixX Q w S B e sz (.slice (some ⟨g, 0, none⟩) l.length cap) l k) (hQ : Stays Q sz) (hk : k < l.length) (hS : ∀ j, S j → j < B) {w4 : World} (hb : Below w.heap.size w w4) (hSw : B ≤ w.heap.size) {X : List Value}
    (hX : Q w4 (fun j => Sf w.heap.size w4 j) X l[k]) : MixX Q (w4.setCells g (k * sz) X) S B e sz (.slice (some ⟨g, 0, none⟩) l.length cap) l (k + 1) := by
  have hg := h.block (g := g) rfl
  obtain ⟨xss, hown, hlen, hel⟩ := h
  have hkx : k < xss.length := by omega
  have hsz : ∀ x ∈ xss, x.length = sz := by
    intro x hx
    obtain ⟨i, hi, rfl⟩ := List.mem_iff_getElem.1 hx
    by_cases hik : i < k
    · exact hQ.size ((hel i _ l[i] (List.getElem?_eq_getElem hi) (List.getElem?_eq_getElem (by omega))).1 hik)
    · exact hQ.size ((hel i _ l[i] (List.getElem?_eq_getElem hi) (List.getElem?_eq_getElem (by omega))).2 (by omega))
  have hown4 : w4.ownsRow B e sz (.slice (some ⟨g, 0, none⟩) l.length cap) l.length xss.flatten := by
    rcases hown with ⟨hl, h | ⟨g', cap', cur, he, h2, h3, h4⟩⟩
    · exact ⟨hl, .inl h⟩
    · exact ⟨hl, .inr ⟨g', cap', cur, he, h2, (hb.block g' (lt_of_block h3)).trans h3, h4⟩⟩
  have hst := own_setCells X (k * sz) w4 _ hown4
  have hf := setL_flat X 0 xss hsz hkx (by rw [hQ.size hX, Nat.zero_add])
  rw [Nat.add_zero] at hf
  rw [hf, List.take_zero, List.nil_append] at hst
  have hk2 := keeps_setCells (g := g) X (k * sz) w4
  have hglt := hg.lt
  refine ⟨xss.set k X, by exact hst, by rw [List.length_set]; exact hlen, fun i x z hx hz => ?_⟩
  by_cases e1 : i = k
  · subst e1
    rw [List.getElem?_set_self hkx] at hx
    rw [List.getElem?_eq_getElem hk] at hz
    cases hx; cases hz
    exact ⟨fun _ => hQ.keep hX (fun j hj => ⟨⟨by have := hj.1; omega, soft_setCells _ _ _ hj.2⟩, fun e => by have h1 := hj.1; have h2 : some g = some j := e; injection h2 with h2; omega⟩) (hk2.mono fun j hj e => by have h1 := hj.1; have h2 : j = g := e; omega), fun h => by omega⟩
  · rw [List.getElem?_set_ne (fun h => e1 h.symm)] at hx
    obtain ⟨h1, h2⟩ := hel i x z hx hz
    refine ⟨fun hi => ?_, fun hi => ?_⟩
    · refine hQ.keep (h1 (by omega)) (fun j hj => ⟨⟨hj.1.1, soft_setCells _ _ _ (hj.1.2.below hb)⟩, hj.2⟩) (((Keeps.of_below hb (S := (· < w.heap.size)) fun _ h => h).mono fun j hj => hj.1.lt).trans (hk2.mono fun j hj e => hj.2 (by rw [e]; rfl)))
    · exact hQ.keep (h2 (by omega)) (fun _ h => h) (((Keeps.of_below hb (S := (· < w.heap.size)) fun _ h => h).mono fun j hj => Nat.lt_of_lt_of_le (hS j hj) hSw).trans (hk2.mono fun j hj e => by have h1 := hS j hj; have h2 := hg.1; have h3 : j = g := e; omega))
theorem MixX.below {k : Nat} (h : MixX Q w S B e sz v l k) (hQ : Stays Q sz) (hS : ∀ j, S j → j < w.heap.size) (hb : Below w.heap.size w w') : MixX Q w' S B e sz v l k := by
  obtain ⟨xss, h1, h2, h3⟩ := h
  have hk := Keeps.of_below hb (S := (· < w.heap.size)) fun _ h => h
  refine ⟨xss, ?_, h2, fun i x y hx hy => ⟨fun hi => hQ.keep ((h3 i x y hx hy).1 hi) (fun j hj => ⟨hj.1.below hb, hj.2⟩) (hk.mono fun j hj => hj.1.lt), fun hi => hQ.keep ((h3 i x y hx hy).2 hi) (fun _ h => h) (hk.mono hS)⟩⟩
  rcases h1 with ⟨hl, h | ⟨g, cap, cur, rfl, h2, h3, h4⟩⟩
  · exact ⟨hl, .inl h⟩
  · exact ⟨hl, .inr ⟨g, cap, cur, rfl, h2, (hb.block g (lt_of_block h3)).trans h3, h4⟩⟩
/-- An element's cells are there, to be written over. -/
theorem MixX.there {k : Nat} {g cap : Nat} (h : MixX Q w S B e sz (.slice (some ⟨g, 0, none⟩) l.length cap) l k) (hQ : Stays Q sz) (hk : k < l.length) : w.there g (k * sz) sz := by
  obtain ⟨g', cap', x, he, _, _, hs, hx, hc⟩ := h.at hQ hk
  cases he
  intro j hj
  have hl := hQ.size hx
  exact ⟨by rw [hc j (x[j]'(by omega)) (List.getElem?_eq_getElem (by omega))]; rfl, hs.2.frozen _⟩
end
end
end Go.Proofs.Yteaeccpmociphaa
