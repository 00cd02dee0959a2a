/-
  Merged: ObrS, ObrB, ObrK.
-/
import Derived.Test.YteaeccpmociphaaObrA
import Derived.Deep.RegionLaw
import Derived.Test.YteaeccpmociphaaObjW
import Derived.Test.YteaeccpmociphaaObrG
import Derived.Test.YteaeccpmociphaaObjV
import Derived.Test.YteaeccpmociphaaObpC
import Derived.Test.YteaeccpmociphaaObjT
import Derived.Test.YteaeccpmociphaaSetsC
import Derived.Shelf.Spec.SlicesInsert
import Derived.Lib.Overlaps
import Derived.Shelf.Spec.SlicesInsertGrow
import Derived.Test.YteaeccpmociphaaObjS
namespace Go.Proofs.Yteaeccpmociphaa
section
/-! Merged: ObrW, ObrS. -/

section
/-! Layer 7, the program, by contract: without. (Made by wip/gen_obr.py.) -/
set_option linter.unusedVariables false
open Go.RowKit Go.Sort Go.Shelf

theorem Lst.dropped {α : Type} {w : World} {S : Nat → Prop} {P : List Value → α → Prop} {sz b o n cap : Nat} {l : List α} (h : Lst w S P sz (.slice (some ⟨b, o, none⟩) n cap) l) {k : Nat} (hk : k ≤ n) : Lst w S P sz (.slice (some ⟨b, o + k * sz, none⟩) (n - k) (cap - k)) (l.drop k) := by
  obtain ⟨a', cap', xss, h1, h2, h3, h4, h5, h6⟩ := h
  simp only [Value.slice.injEq] at h1
  obtain ⟨rfl, rfl, rfl⟩ := h1
  refine ⟨_, _, xss.drop k, by rw [List.length_drop], by rw [List.length_drop]; omega, by omega, ?_, by rw [List.length_drop, List.length_drop, h5], fun i x y hx hy => ?_⟩
  · rcases h4 with rfl | ⟨b', o', he, hb, hc⟩
    · exact .inl (by simp)
    · cases he
      refine .inr ⟨b, o + k * sz, rfl, hb, fun i x hx j u hu => ?_⟩
      rw [List.getElem?_drop] at hx
      have := hc (k + i) x hx j u hu
      rw [Nat.add_mul] at this
      rw [show o + k * sz + i * sz + j = o + (k * sz + i * sz) + j by omega]
      exact this
  · rw [List.getElem?_drop] at hx hy
    exact h6 _ x y hx hy
theorem Lst.none {α : Type} {w : World} {S : Nat → Prop} {P : List Value → α → Prop} {sz : Nat} (a : Option Addr) (c : Nat) (hc : c ≤ maxLen) : Lst w S P sz (.slice a 0 c) ([] : List α) :=
  ⟨a, c, [], rfl, Nat.zero_le _, hc, .inl rfl, rfl, fun i x y h => by simp at h⟩

set_option maxRecDepth 100000 in
set_option maxHeartbeats 4000000 in
theorem prog_without_sch (a : Option Addr) (n c : Nat) (S : Nat → Prop) (l : List Sch) (at' : Nat) (w : World) (h : Lst w S (schQ w S) 2 (.slice a n c) l) (hk : at' < n) (hS : ∀ k, S k → k < w.heap.size) (hN : n ≤ 1099511627776) :
    Calls Try.prog 63 #[.slice a n c, .int .i64 at'] w (ConcatPost schQ w S 72 2 (l.eraseIdx at')) := by
  obtain ⟨hl, hc, hm⟩ := h.len
  unfold maxLen at hm
  have hkl : at' < l.length := by omega
  obtain ⟨b, o, x, rfl, -, -, -⟩ := h.at hkl
  have hdw : Below w.heap.size w w.drew := ⟨rfl, rfl, rfl, Nat.le_refl _, fun _ _ => rfl⟩
  have hkd : Keeps S w w.drew := Keeps.of_below hdw hS
  have h' : Lst w.drew S (schQ w.drew S) 2 (.slice (some ⟨b, o, none⟩) n c) l := h.keep (fun _ h => h) hkd fun x y _ h => sch_stays.keep h (fun _ h => h) hkd
  have k0 : (0 : Int) ≤ (at' : Int) := by omega
  have k1 : (at' : Int) ≤ (c : Int) := by omega
  have k2 : wrap64 ((at' : Int) + 1) = (at' : Int) + 1 := by unfold wrap64; omega
  have k3 : (0 : Int) ≤ (at' : Int) + 1 := by omega
  have k4 : (at' : Int) + 1 ≤ (n : Int) := by omega
  have k5 : (n : Int) ≤ (c : Int) := by omega
  have h1 := h'.take (k := at') (by omega)
  have h2 : Lst w.drew S (schQ w.drew S) 2 (.slice (if c = at' + 1 then some ⟨b, o, none⟩ else some ⟨b, o + (at' + 1) * 2, none⟩) (n - (at' + 1)) (c - (at' + 1))) (l.drop (at' + 1)) := by
    split
    · rename_i hcc
      rw [show n - (at' + 1) = 0 by omega, List.drop_of_length_le (by omega)]
      exact Lst.none _ _ (by unfold maxLen; omega)
    · exact h'.dropped (k := at' + 1) (by omega)
  have hlt := listed sch_stays (w := w.drew) [.slice (some ⟨b, o, none⟩) at' c, .slice (if c = at' + 1 then some ⟨b, o, none⟩ else some ⟨b, o + (at' + 1) * 2, none⟩) (n - (at' + 1)) (c - (at' + 1))] [l.take at', l.drop (at' + 1)] 23 rfl (show 2 ≤ maxLen by unfold maxLen; decide) hS fun i v y hi hy => by
    match i, hi, hy with
    | 0, hi, hy => simp only [List.getElem?_cons_zero, Option.some.injEq] at hi hy; subst hi hy; exact h1
    | 1, hi, hy => simp only [List.getElem?_cons_succ, List.getElem?_cons_zero, Option.some.injEq] at hi hy; subst hi hy; exact h2
    | i + 2, hi, _ => simp at hi
  have HC : Hid (Calls Try.prog 103 #[.slice (some ⟨w.heap.size, 0, none⟩) 2 2] (w.alloc (.cells #[.slice (some ⟨b, o, none⟩) at' c, .slice (if c = at' + 1 then some ⟨b, o, none⟩ else some ⟨b, o + (at' + 1) * 2, none⟩) (n - (at' + 1)) (c - (at' + 1))] 23)).drew
      (ConcatPost schQ (w.drew.alloc (.cells #[.slice (some ⟨b, o, none⟩) at' c, .slice (if c = at' + 1 then some ⟨b, o, none⟩ else some ⟨b, o + (at' + 1) * 2, none⟩) (n - (at' + 1)) (c - (at' + 1))] 23)) S 72 2 [l.take at', l.drop (at' + 1)].flatten)) :=
    Lib.hid (prog_concat_sch _ 2 2 S _ (w.drew.alloc (.cells #[.slice (some ⟨b, o, none⟩) at' c, .slice (if c = at' + 1 then some ⟨b, o, none⟩ else some ⟨b, o + (at' + 1) * 2, none⟩) (n - (at' + 1)) (c - (at' + 1))] 23)) hlt
      (fun k hk => by have := hS k hk; have h9 : (w.drew.alloc (.cells #[.slice (some ⟨b, o, none⟩) at' c, .slice (if c = at' + 1 then some ⟨b, o, none⟩ else some ⟨b, o + (at' + 1) * 2, none⟩) (n - (at' + 1)) (c - (at' + 1))] 23)).heap.size = w.heap.size + 1 := size_box _ _; omega)
      (by unfold lenT; simp only [List.flatten_cons, List.flatten_nil, List.append_nil, List.length_append, List.length_take, List.length_drop]; omega))
  have HE := Lib.hid (show [l.take at', l.drop (at' + 1)].flatten = l.eraseIdx at' by rw [List.eraseIdx_eq_take_drop_succ]; simp)
  have HD := Lib.hid hdw
  clear h h' h1 h2 hlt hkd hdw hl hS hkl
  go_enter Try.func63, Try.ntmps63
  go_wp2_with fail
  have k2' : IntKind.i64.wrap ((at' : Int) + 1) = (at' : Int) + 1 := by rw [IntKind.wrap_i64]; omega
  go_region_law (first
    | (go_simp
       refine HC.out.mono ?_
       intro e w' hp
       obtain ⟨v, rfl, hv, hb⟩ := copy_post hp HE.out
       have HV := Lib.hid hv; have HB := Lib.hid (HD.out.trans hb)
       clear hp hv hb))
  all_goals
    go_wp2_with fail
    all_goals (go_ret; exact ⟨_, rfl, HV.out, HB.out⟩)

set_option maxRecDepth 100000 in
set_option maxHeartbeats 4000000 in
theorem prog_without_tab (a : Option Addr) (n c : Nat) (S : Nat → Prop) (l : List Tab) (at' : Nat) (w : World) (h : Lst w S (tabP w S) 5 (.slice a n c) l) (hk : at' < n) (hS : ∀ k, S k → k < w.heap.size) (hN : n ≤ 1099511627776) :
    Calls Try.prog 72 #[.slice a n c, .int .i64 at'] w (ConcatPost tabP w S 35 5 (l.eraseIdx at')) := by
  obtain ⟨hl, hc, hm⟩ := h.len
  unfold maxLen at hm
  have hkl : at' < l.length := by omega
  obtain ⟨b, o, x, rfl, -, -, -⟩ := h.at hkl
  have hdw : Below w.heap.size w w.drew := ⟨rfl, rfl, rfl, Nat.le_refl _, fun _ _ => rfl⟩
  have hkd : Keeps S w w.drew := Keeps.of_below hdw hS
  have h' : Lst w.drew S (tabP w.drew S) 5 (.slice (some ⟨b, o, none⟩) n c) l := h.keep (fun _ h => h) hkd fun x y _ h => tab_stays.keep h (fun _ h => h) hkd
  have k0 : (0 : Int) ≤ (at' : Int) := by omega
  have k1 : (at' : Int) ≤ (c : Int) := by omega
  have k2 : wrap64 ((at' : Int) + 1) = (at' : Int) + 1 := by unfold wrap64; omega
  have k3 : (0 : Int) ≤ (at' : Int) + 1 := by omega
  have k4 : (at' : Int) + 1 ≤ (n : Int) := by omega
  have k5 : (n : Int) ≤ (c : Int) := by omega
  have h1 := h'.take (k := at') (by omega)
  have h2 : Lst w.drew S (tabP w.drew S) 5 (.slice (if c = at' + 1 then some ⟨b, o, none⟩ else some ⟨b, o + (at' + 1) * 5, none⟩) (n - (at' + 1)) (c - (at' + 1))) (l.drop (at' + 1)) := by
    split
    · rename_i hcc
      rw [show n - (at' + 1) = 0 by omega, List.drop_of_length_le (by omega)]
      exact Lst.none _ _ (by unfold maxLen; omega)
    · exact h'.dropped (k := at' + 1) (by omega)
  have hlt := listed tab_stays (w := w.drew) [.slice (some ⟨b, o, none⟩) at' c, .slice (if c = at' + 1 then some ⟨b, o, none⟩ else some ⟨b, o + (at' + 1) * 5, none⟩) (n - (at' + 1)) (c - (at' + 1))] [l.take at', l.drop (at' + 1)] 24 rfl (show 2 ≤ maxLen by unfold maxLen; decide) hS fun i v y hi hy => by
    match i, hi, hy with
    | 0, hi, hy => simp only [List.getElem?_cons_zero, Option.some.injEq] at hi hy; subst hi hy; exact h1
    | 1, hi, hy => simp only [List.getElem?_cons_succ, List.getElem?_cons_zero, Option.some.injEq] at hi hy; subst hi hy; exact h2
    | i + 2, hi, _ => simp at hi
  have HC : Hid (Calls Try.prog 108 #[.slice (some ⟨w.heap.size, 0, none⟩) 2 2] (w.alloc (.cells #[.slice (some ⟨b, o, none⟩) at' c, .slice (if c = at' + 1 then some ⟨b, o, none⟩ else some ⟨b, o + (at' + 1) * 5, none⟩) (n - (at' + 1)) (c - (at' + 1))] 24)).drew
      (ConcatPost tabP (w.drew.alloc (.cells #[.slice (some ⟨b, o, none⟩) at' c, .slice (if c = at' + 1 then some ⟨b, o, none⟩ else some ⟨b, o + (at' + 1) * 5, none⟩) (n - (at' + 1)) (c - (at' + 1))] 24)) S 35 5 [l.take at', l.drop (at' + 1)].flatten)) :=
    Lib.hid (prog_concat_tab _ 2 2 S _ (w.drew.alloc (.cells #[.slice (some ⟨b, o, none⟩) at' c, .slice (if c = at' + 1 then some ⟨b, o, none⟩ else some ⟨b, o + (at' + 1) * 5, none⟩) (n - (at' + 1)) (c - (at' + 1))] 24)) hlt
      (fun k hk => by have := hS k hk; have h9 : (w.drew.alloc (.cells #[.slice (some ⟨b, o, none⟩) at' c, .slice (if c = at' + 1 then some ⟨b, o, none⟩ else some ⟨b, o + (at' + 1) * 5, none⟩) (n - (at' + 1)) (c - (at' + 1))] 24)).heap.size = w.heap.size + 1 := size_box _ _; omega)
      (by unfold lenT; simp only [List.flatten_cons, List.flatten_nil, List.append_nil, List.length_append, List.length_take, List.length_drop]; omega))
  have HE := Lib.hid (show [l.take at', l.drop (at' + 1)].flatten = l.eraseIdx at' by rw [List.eraseIdx_eq_take_drop_succ]; simp)
  have HD := Lib.hid hdw
  clear h h' h1 h2 hlt hkd hdw hl hS hkl
  go_enter Try.func72, Try.ntmps72
  go_wp2_with fail
  have k2' : IntKind.i64.wrap ((at' : Int) + 1) = (at' : Int) + 1 := by rw [IntKind.wrap_i64]; omega
  go_region_law (first
    | (go_simp
       refine HC.out.mono ?_
       intro e w' hp
       obtain ⟨v, rfl, hv, hb⟩ := copy_post hp HE.out
       have HV := Lib.hid hv; have HB := Lib.hid (HD.out.trans hb)
       clear hp hv hb))
  all_goals
    go_wp2_with fail
    all_goals (go_ret; exact ⟨_, rfl, HV.out, HB.out⟩)

set_option maxRecDepth 100000 in
set_option maxHeartbeats 4000000 in
theorem prog_without_col (a : Option Addr) (n c : Nat) (S : Nat → Prop) (l : List Col) (at' : Nat) (w : World) (h : Lst w S (colQ w S) 3 (.slice a n c) l) (hk : at' < n) (hS : ∀ k, S k → k < w.heap.size) (hN : n ≤ 1099511627776) :
    Calls Try.prog 85 #[.slice a n c, .int .i64 at'] w (ConcatPost colQ w S 41 3 (l.eraseIdx at')) := by
  obtain ⟨hl, hc, hm⟩ := h.len
  unfold maxLen at hm
  have hkl : at' < l.length := by omega
  obtain ⟨b, o, x, rfl, -, -, -⟩ := h.at hkl
  have hdw : Below w.heap.size w w.drew := ⟨rfl, rfl, rfl, Nat.le_refl _, fun _ _ => rfl⟩
  have hkd : Keeps S w w.drew := Keeps.of_below hdw hS
  have h' : Lst w.drew S (colQ w.drew S) 3 (.slice (some ⟨b, o, none⟩) n c) l := h.keep (fun _ h => h) hkd fun x y _ h => col_stays.keep h (fun _ h => h) hkd
  have k0 : (0 : Int) ≤ (at' : Int) := by omega
  have k1 : (at' : Int) ≤ (c : Int) := by omega
  have k2 : wrap64 ((at' : Int) + 1) = (at' : Int) + 1 := by unfold wrap64; omega
  have k3 : (0 : Int) ≤ (at' : Int) + 1 := by omega
  have k4 : (at' : Int) + 1 ≤ (n : Int) := by omega
  have k5 : (n : Int) ≤ (c : Int) := by omega
  have h1 := h'.take (k := at') (by omega)
  have h2 : Lst w.drew S (colQ w.drew S) 3 (.slice (if c = at' + 1 then some ⟨b, o, none⟩ else some ⟨b, o + (at' + 1) * 3, none⟩) (n - (at' + 1)) (c - (at' + 1))) (l.drop (at' + 1)) := by
    split
    · rename_i hcc
      rw [show n - (at' + 1) = 0 by omega, List.drop_of_length_le (by omega)]
      exact Lst.none _ _ (by unfold maxLen; omega)
    · exact h'.dropped (k := at' + 1) (by omega)
  have hlt := listed col_stays (w := w.drew) [.slice (some ⟨b, o, none⟩) at' c, .slice (if c = at' + 1 then some ⟨b, o, none⟩ else some ⟨b, o + (at' + 1) * 3, none⟩) (n - (at' + 1)) (c - (at' + 1))] [l.take at', l.drop (at' + 1)] 32 rfl (show 2 ≤ maxLen by unfold maxLen; decide) hS fun i v y hi hy => by
    match i, hi, hy with
    | 0, hi, hy => simp only [List.getElem?_cons_zero, Option.some.injEq] at hi hy; subst hi hy; exact h1
    | 1, hi, hy => simp only [List.getElem?_cons_succ, List.getElem?_cons_zero, Option.some.injEq] at hi hy; subst hi hy; exact h2
    | i + 2, hi, _ => simp at hi
  have HC : Hid (Calls Try.prog 113 #[.slice (some ⟨w.heap.size, 0, none⟩) 2 2] (w.alloc (.cells #[.slice (some ⟨b, o, none⟩) at' c, .slice (if c = at' + 1 then some ⟨b, o, none⟩ else some ⟨b, o + (at' + 1) * 3, none⟩) (n - (at' + 1)) (c - (at' + 1))] 32)).drew
      (ConcatPost colQ (w.drew.alloc (.cells #[.slice (some ⟨b, o, none⟩) at' c, .slice (if c = at' + 1 then some ⟨b, o, none⟩ else some ⟨b, o + (at' + 1) * 3, none⟩) (n - (at' + 1)) (c - (at' + 1))] 32)) S 41 3 [l.take at', l.drop (at' + 1)].flatten)) :=
    Lib.hid (prog_concat_col _ 2 2 S _ (w.drew.alloc (.cells #[.slice (some ⟨b, o, none⟩) at' c, .slice (if c = at' + 1 then some ⟨b, o, none⟩ else some ⟨b, o + (at' + 1) * 3, none⟩) (n - (at' + 1)) (c - (at' + 1))] 32)) hlt
      (fun k hk => by have := hS k hk; have h9 : (w.drew.alloc (.cells #[.slice (some ⟨b, o, none⟩) at' c, .slice (if c = at' + 1 then some ⟨b, o, none⟩ else some ⟨b, o + (at' + 1) * 3, none⟩) (n - (at' + 1)) (c - (at' + 1))] 32)).heap.size = w.heap.size + 1 := size_box _ _; omega)
      (by unfold lenT; simp only [List.flatten_cons, List.flatten_nil, List.append_nil, List.length_append, List.length_take, List.length_drop]; omega))
  have HE := Lib.hid (show [l.take at', l.drop (at' + 1)].flatten = l.eraseIdx at' by rw [List.eraseIdx_eq_take_drop_succ]; simp)
  have HD := Lib.hid hdw
  clear h h' h1 h2 hlt hkd hdw hl hS hkl
  go_enter Try.func85, Try.ntmps85
  go_wp2_with fail
  have k2' : IntKind.i64.wrap ((at' : Int) + 1) = (at' : Int) + 1 := by rw [IntKind.wrap_i64]; omega
  go_region_law (first
    | (go_simp
       refine HC.out.mono ?_
       intro e w' hp
       obtain ⟨v, rfl, hv, hb⟩ := copy_post hp HE.out
       have HV := Lib.hid hv; have HB := Lib.hid (HD.out.trans hb)
       clear hp hv hb))
  all_goals
    go_wp2_with fail
    all_goals (go_ret; exact ⟨_, rfl, HV.out, HB.out⟩)
end

section
/-! Layer 7, the program, by contract: DropSchema. -/
set_option linter.unusedVariables false
open Go.RowKit Go.Sort Go.Shelf

/-- What the schema's dropping makes of objects that are right. -/
def dropSchF (o : Objs) (n : ByteArray) : Objs × Int :=
  if schI o.schemas n < 0 then (noO, 61) else if 0 < tabN o.tables n then (noO, 62) else (⟨o.schemas.eraseIdx (schI o.schemas n).toNat, o.tables⟩, 0)
theorem schI_none {l : List Sch} {s : ByteArray} (h : schI l s < 0) : schI l s = -1 := by
  have : -1 ≤ schI l s := idxI_ge _ _
  omega
set_option maxRecDepth 100000 in
set_option maxHeartbeats 8000000 in
theorem prog_dropsch1_any (b B1 q : Nat) (o : Objs) (vs vt : Value) (n : ByteArray) (W : World) (hbox : W.heap[b]? = some (.cells #[vs, vt] 26 (0, 0)))
    (hx : objX W B1 vs vt o) (hB : B1 ≤ W.heap.size) (hb : b < B1) (hq : W.cell? ⟨q, 0, none⟩ = some (.string n)) (hsm : o.schemas.length ≤ 3000) :
    Calls Try.prog 61 #[.pointer (some ⟨b, 0, none⟩), .pointer (some ⟨q, 0, none⟩)] W (ChPost b B1 W (dropSchF o n)) := by
  obtain ⟨va, vcap, rfl, _, _⟩ := hx.1.form
  obtain ⟨xa, xcap, rfl, _, _⟩ := hx.2.form
  have hob : objP W (· < W.heap.size) _ o := obj_keep hx.obj (fun k hk => hk.lt) Keeps.refl
  obtain ⟨n3, hn3⟩ : ∃ m, o.schemas.length = m := ⟨_, rfl⟩
  obtain ⟨n4, hn4⟩ : ∃ m, o.tables.length = m := ⟨_, rfl⟩
  rw [hn3, hn4] at hbox hob
  obtain ⟨_, _, hv, hss, hts⟩ := id hob
  simp only [List.cons.injEq, and_true] at hv
  obtain ⟨rfl, rfl⟩ := hv
  have hlt := World.block_lt_of_cell? W _ hq
  have hbl : b < W.heap.size := Nat.lt_of_lt_of_le hb hB
  have hdw : Below W.heap.size W W.drew := ⟨rfl, rfl, rfl, Nat.le_refl _, fun _ _ => rfl⟩
  have HP := Lib.hid (prog_schplace_any W.heap.size va n3 vcap o.schemas n W.drew (schs_keep hss (fun _ h => h) (Keeps.of_below hdw fun _ h => h)) (Nat.le_refl _))
  have HCT := Lib.hid (fun W' (h : Below W.heap.size W W') => prog_count_any W.heap.size o _ _ n W' (obj_keep hob (fun _ h => h) (Keeps.of_below h fun _ h => h)) h.size)
  have HWO := Lib.hid (fun k (hk : k < n3) W' (h : Below W.heap.size W W') => prog_without_sch va n3 vcap (· < W.heap.size) o.schemas k W' (schs_keep hss (fun _ h => h) (Keeps.of_below h fun _ h => h)) hk (fun j hj => Nat.lt_of_lt_of_le hj h.size) (by omega))
  have c0 := box_at hbox 0 rfl
  have HBOX := Lib.hid hbox; have HX := Lib.hid hx; have HQ := Lib.hid hq
  have HN3 := Lib.hid hn3; have HN4 := Lib.hid hn4; have HD := Lib.hid hdw
  clear hbox hx hob hss hts hdw
  by_cases hi : schI o.schemas n < 0
  · have HE := Lib.hid (show dropSchF o n = (noO, 61) by unfold dropSchF; rw [if_pos hi])
    rw [schI_none hi] at HP
    clear hn3 hn4
    go_enter Try.func61, Try.ntmps61
    go_wp2_with fail
    go_region_law (first
      | (go_simp
         refine HP.out.mono ?_
         rintro e w1 ⟨rfl, g1⟩
         have HB1 := Lib.hid (HD.out.trans g1.below)
         clear g1))
    all_goals
      go_wp2_with fail
      go_ret
      rw [HE.out]
      exact ⟨rfl, Keeps.of_below HB1.out fun k hk => by omega, fun h => by simp at h⟩
  · obtain ⟨k, hk⟩ : ∃ k : Nat, schI o.schemas n = k := ⟨(schI o.schemas n).toNat, by omega⟩
    have hkl : k < n3 := by
      obtain ⟨h1, _⟩ := idxI_get (show idxI _ o.schemas = (k : Int) from hk)
      omega
    have km : ((k : Int) == -1) = false := by simp
    have kn : ¬ ((k : Int) = -1) := by omega
    have k0 : (0 : Int) ≤ (k : Int) := by omega
    have HK := Lib.hid hk
    rw [hk] at HP
    by_cases ht : 0 < tabN o.tables n
    · have HE := Lib.hid (show dropSchF o n = (noO, 62) by unfold dropSchF; rw [if_neg hi, if_pos ht])
      have ht1 : ((0 : Int) < (tabN o.tables n : Int)) := by omega
      clear hn3 hn4 hk hi
      generalize (tabN o.tables n : Int) = q9 at *
      go_enter Try.func61, Try.ntmps61
      go_wp2_with fail
      go_region_law (first
        | (go_simp
           refine HP.out.mono ?_
           rintro e w1 ⟨rfl, g1⟩
           have hb1 := HD.out.trans g1.below
           have HB1 := Lib.hid (below_drawn hb1 1)
           have d0 := box_at ((hb1.block b hbl).trans HBOX.out) 0 rfl
           have d1 := box_at ((hb1.block b hbl).trans HBOX.out) 1 rfl
           have dq := (hb1.cell (p := ⟨q, 0, none⟩) hlt).trans HQ.out
           clear g1 hb1))
      all_goals
        go_wp2_with fail
        go_region_law (first
          | (go_simp
             refine (HCT.out _ HB1.out).mono ?_
             rintro e w2 ⟨rfl, g2⟩
             have HB2 := Lib.hid (below_on HB1.out (Nat.le_refl _) g2)
             clear g2))
        all_goals
          go_wp2_with fail
          go_ret
          rw [HE.out]
          exact ⟨rfl, Keeps.of_below HB2.out fun k hk => by omega, fun h => by simp at h⟩
    · have HE := Lib.hid (show dropSchF o n = (⟨o.schemas.eraseIdx k, o.tables⟩, 0) by unfold dropSchF; rw [if_neg hi, if_neg ht, hk]; rfl)
      have ht0 : ¬ ((0 : Int) < (tabN o.tables n : Int)) := by omega
      clear hn3 hn4 hk hi
      generalize (tabN o.tables n : Int) = q9 at *
      go_enter Try.func61, Try.ntmps61
      go_wp2_with fail
      go_region_law (first
        | (go_simp
           refine HP.out.mono ?_
           rintro e w1 ⟨rfl, g1⟩
           have hb1 := HD.out.trans g1.below
           have HB1 := Lib.hid (below_drawn hb1 1)
           have d0 := box_at ((hb1.block b hbl).trans HBOX.out) 0 rfl
           have d1 := box_at ((hb1.block b hbl).trans HBOX.out) 1 rfl
           have dq := (hb1.cell (p := ⟨q, 0, none⟩) hlt).trans HQ.out
           clear g1 hb1))
      all_goals
        go_wp2_with fail
        go_region_law (first
          | (go_simp
             refine (HCT.out _ HB1.out).mono ?_
             rintro e w2 ⟨rfl, g2⟩
             have HB2 := Lib.hid (below_on HB1.out (Nat.le_refl _) g2)
             have f0 := box_at ((HB2.out.block b hbl).trans HBOX.out) 0 rfl
             clear g2))
        all_goals
          go_wp2_with (go_at_call 63
                       refine (HWO.out k hkl _ HB2.out).mono ?_
                       rintro e w3 ⟨nv, rfl, hv, hb3⟩
                       obtain ⟨na, nc, rfl, _, _⟩ := hv.form
                       have hb03 := below_on HB2.out (Nat.le_refl _) hb3
                       have hr3 := (hb03.block b hbl).trans HBOX.out
                       have g0 := box_at hr3 0 rfl
                       have z0 := frozen_of_row w3 b 0 _ _ hr3
                       obtain ⟨n5, hn5⟩ : ∃ m, (o.schemas.eraseIdx k).length = m := ⟨_, rfl⟩
                       rw [hn5] at hv ⊢
                       have HV := Lib.hid (hv.flat (fun h => h)); have HB3 := Lib.hid hb03; have HR3 := Lib.hid hr3; have HS2 := Lib.hid (Nat.le_trans hB HB2.out.size)
                       clear hv hb03 hr3 hb3 hn5)
          go_ret
          rw [HE.out]
          have hk4 : Keeps (fun j => j ≠ b) w3 (w3.setCell ⟨b, 0, none⟩ (.slice na n5 nc)) := Keeps.refl.setCell (by simp) _
          have hsf : ∀ j, Sf B1 w3 j → Sf B1 (w3.setCell ⟨b, 0, none⟩ (.slice na n5 nc)) j ∧ j ≠ b := fun j hj => ⟨hj.keep hk4 (by have := hj.1; omega), by have := hj.1; omega⟩
          have htx := (objX.below HX.out HB3.out).2.lst tab_stays
          rw [HN4.out] at htx
          exact ⟨rfl, ((Keeps.of_below HB3.out (S := fun j => j < B1 ∧ j ≠ b) fun j hj => by omega).trans (hk4.mono fun j hj => hj.2)), fun _ => ⟨_, _, heap_setCell_same _ _ 0 _ _ _ HR3.out, _, _, rfl,
            schs_keep ((HV.out.mono sch_stays HS2.out).lst sch_stays) (fun j hj => (hsf j hj).1) (hk4.mono fun j hj => (hsf j hj).2),
            tabs_keep htx (fun j hj => (hsf j hj).1) (hk4.mono fun j hj => (hsf j hj).2)⟩⟩

theorem filt_erase {n : ByteArray} : ∀ {l : List Sch}, l.Pairwise (fun a b => ltS a b = true) → ∀ {k : Nat}, schI l n = k → l.filter (fun s => !eqT s.name n) = l.eraseIdx k
  | [], _, k, hk => by simp
  | x :: r, hp, k, hk => by
    rw [List.pairwise_cons] at hp
    unfold schI idxI at hk
    by_cases hx : eqT x.name n = true
    · rw [if_pos hx] at hk
      obtain rfl : k = 0 := by omega
      rw [List.filter_cons, if_neg (by rw [hx]; simp), List.eraseIdx_zero, List.tail_cons, List.filter_eq_self]
      intro y hy
      cases hy2 : eqT y.name n with
      | false => rfl
      | true =>
        have h1 := hp.1 y hy
        rw [eqT_iff] at hx hy2
        unfold ltS at h1
        rw [hx, hy2, ltT_irr] at h1
        cases h1
    · rw [if_neg hx] at hk
      split at hk
      · omega
      · obtain ⟨j, rfl⟩ : ∃ j, k = j + 1 := ⟨k - 1, by omega⟩
        rw [List.filter_cons, if_pos (by simpa using hx), List.eraseIdx_cons_succ, filt_erase hp.2 (k := j) (by unfold schI; omega)]
theorem dropSch_is {o : Objs} {n : ByteArray} (h : rightB o = true) : dropSchemaF o n = dropSchF o n := by
  unfold dropSchemaF dropSchF
  rw [if_neg (by rw [h]; simp)]
  split
  · rfl
  · split
    · rfl
    · rename_i h1 h2
      rw [filt_erase (right_iff.1 h).srise (k := (schI o.schemas n).toNat) (by omega)]

set_option maxRecDepth 100000 in
set_option maxHeartbeats 8000000 in
theorem prog_dropschema_any (B : Nat) (o : Objs) (vs vt : Value) (n : ByteArray) (w : World) (ho : objP w (· < B) [vs, vt] o) (hB : B ≤ w.heap.size) (hsm : smallO 3000 o) :
    Calls Try.prog 25 #[.agg #[vs, vt], .string n] w (OutPost w (dropSchemaF o n)) := by
  have HI : Hid ((Try.prog.info? 26).map (·.size) = some 2) := Lib.hid (by kernel_rfl)
  obtain ⟨_, _, hv, hss, hts⟩ := id ho
  simp only [List.cons.injEq, and_true] at hv
  obtain ⟨rfl, rfl⟩ := hv
  obtain ⟨sa, sc, rfl, _, _⟩ := hss.form
  obtain ⟨ta, tc, rfl, _, _⟩ := hts.form
  obtain ⟨sn, hsn⟩ : ∃ sn, o.schemas.length = sn := ⟨_, rfl⟩
  obtain ⟨tn, htn⟩ : ∃ tn, o.tables.length = tn := ⟨_, rfl⟩
  rw [hsn, htn] at ho ⊢
  clear hss hts hsn htn
  obtain ⟨hop, r1⟩ := opened3 ho hB (.cells #[.string n] 9)
  obtain ⟨w0, hw0⟩ : ∃ w0, w0 = ((w.alloc (.cells #[.slice sa sn sc, .slice ta tn tc] 26)).alloc (.cells #[.string n] 9)).alloc (.cells #[.slice none 0 0, .slice none 0 0] 26) := ⟨_, rfl⟩
  have hsz : w0.heap.size = w.heap.size + 3 := by rw [hw0]; simp
  rw [← hw0] at hop r1
  have hbw := hop.below
  have hob : objP w0 (· < B) [.slice sa sn sc, .slice ta tn tc] o := obj_keep ho (fun _ h => h) (Keeps.of_below hbw fun k hk => Nat.lt_of_lt_of_le hk hB)
  have r2 := hop.res
  have c1 := box_at r1 0 rfl
  have HCH := Lib.hid (prog_changed_any B o _ _ 61 #[.pointer (some ⟨w.heap.size + 1, 0, none⟩)] (dropSchF o n) (dropSchemaF o n) w0 hob (by omega) hsm (enters_of Try.func61 (by kernel_rfl) rfl)
    (fun W vs' vt' B1 h1 h2 hbx hx hbW _ => prog_dropsch1_any w0.heap.size B1 (w.heap.size + 1) o vs' vt' n W hbx hx.objX h2 (by omega)
      ((hbW.cell (p := ⟨w.heap.size + 1, 0, none⟩) (by show w.heap.size + 1 < _; omega)).trans c1) hsm.1)
    (fun h => by
      unfold dropSchF at h ⊢
      split
      · rfl
      · split
        · rfl
        · rename_i h1 h2
          rw [if_neg h1, if_neg h2] at h
          exact absurd rfl h)
    (fun h => by unfold dropSchemaF; rw [if_pos h])
    (fun h => dropSch_is h))
  have HR4 := Lib.hid r2; have HSZ := Lib.hid hsz; have HBW := Lib.hid hbw
  clear c1 r1 r2 hob hsz hbw ho hop
  subst hw0
  go_enter Try.func25, Try.ntmps25
  go_wp2_with (first
    | (go_at_call 50
       refine HCH.out.mono ?_
       rintro e w3 ⟨vs3, vt3, rfl, hob3, hb3⟩
       have hob4 := hob3
       obtain ⟨_, _, hv3, hss3, hts3⟩ := hob4
       simp only [List.cons.injEq, and_true] at hv3
       obtain ⟨rfl, rfl⟩ := hv3
       obtain ⟨a3, cap3, rfl, _, _⟩ := hss3.form
       obtain ⟨a4, cap4, rfl, _, _⟩ := hts3.form
       obtain ⟨n3, hn3⟩ : ∃ m, (dropSchemaF o n).1.schemas.length = m := ⟨_, rfl⟩
       obtain ⟨n4, hn4⟩ : ∃ m, (dropSchemaF o n).1.tables.length = m := ⟨_, rfl⟩
       rw [hn3, hn4] at hob3 ⊢
       have HG3 := Lib.hid ((hb3.block (w.heap.size + 2) (by rw [HSZ.out]; omega)).trans HR4.out)
       have HO3 : Hid ((#[.slice a3 n3 cap3, .slice a4 n4 cap4] : Array Value).all (·.oneCell') = true) := Lib.hid (by kernel_rfl)
       have HROW3 := Lib.hid (setRow_heap _ _ _ #[.slice a3 n3 cap3, .slice a4 n4 cap4] _ _ HG3.out)
       have HB3 := Lib.hid (hb3.mono (Nat.le_of_eq HSZ.out.symm)); have HOB3 := Lib.hid (obj_keep hob3 (fun k hk => hk.mono (Nat.le_of_eq HSZ.out.symm)) Keeps.refl)
       clear hb3 hob3 hss3 hts3 hn3 hn4)
    | (refine wpList_store_box rfl 26 _ _ rfl (w.heap.size + 2) 26 _ #[.slice a3 n3 cap3, .slice a4 n4 cap4] rfl rfl HG3.out HI.out rfl HO3.out ?_))
  refine bodyPost_ret (results_box_tmp rfl _ _ (w.heap.size + 2) _ _ (0, 0) _ rfl HROW3.out Try.underlying26 rfl HI.out) rfl ?_
  exact close2 (r := dropSchemaF o n) (HBW.out.trans (HB3.out.mono (by omega))) (by omega) (obj_keep HOB3.out (fun k hk => ⟨hk.mono (by omega), by have := hk.1; omega⟩) Keeps.refl)
end
end

section
/-! Merged: ObrB, ObrI, ObrJ. -/

section
/-! Layer 7, the program, by contract: BinarySearchFunc of schemas. -/
set_option linter.unusedVariables false
open Go.RowKit Go.Sort Go.Shelf

/-- Where a list that rises has the place of x. -/
def posS (x : Sch) (l : List Sch) : Nat := (l.takeWhile fun y => ltS y x).length
theorem posS_le (x : Sch) (l : List Sch) : posS x l ≤ l.length := (List.takeWhile_prefix _).length_le
theorem posS_is {x : Sch} : ∀ {l : List Sch} {p : Nat}, p ≤ l.length → (∀ m (h : m < l.length), m < p → ltS l[m] x = true) → (∀ m (h : m < l.length), p ≤ m → ltS l[m] x = false) → posS x l = p
  | [], p, hp, _, _ => by simp at hp; subst hp; rfl
  | y :: r, 0, _, _, h2 => by
    have := h2 0 (by simp) (Nat.le_refl _)
    simp only [List.getElem_cons_zero] at this
    unfold posS
    rw [List.takeWhile_cons, if_neg (by rw [this]; simp)]; rfl
  | y :: r, p + 1, hp, h1, h2 => by
    have h0 := h1 0 (by simp) (by omega)
    simp only [List.getElem_cons_zero] at h0
    have ih := posS_is (x := x) (l := r) (p := p) (by simpa using hp) (fun m h hm => by have := h1 (m + 1) (by simp; omega) (by omega); simpa using this) (fun m h hm => by have := h2 (m + 1) (by simp; omega) (by omega); simpa using this)
    unfold posS at ih ⊢
    rw [List.takeWhile_cons, if_pos h0, List.length_cons, ih]
def BsfPost (w : World) (p : Nat) (e : Ending) (w' : World) : Prop := ∃ f : Bool, e = .returned (.tuple #[.int .i64 (p : Nat), .bool f]) ∧ Gr w w'

set_option maxRecDepth 100000 in
set_option maxHeartbeats 8000000 in
theorem prog_bsf_sch (B : Nat) (a : Option Addr) (n c : Nat) (l : List Sch) (x : Sch) (w : World) (h : Lst w (· < B) schP 2 (.slice a n c) l) (hB : B ≤ w.heap.size) (hn : n ≤ 3000) (hp : l.Pairwise (fun a b => ltS a b = true)) :
    Calls Try.prog 100 #[.slice a n c, .agg #[.string x.name, .string x.owner], .func (.func 59) #[] #[]] w (BsfPost w (posS x l)) := by
  have mixed := mixed_ok
  obtain ⟨hl, hc, hm⟩ := h.len
  unfold maxLen at hm
  have hg := Gr.alloc w (.cells #[.string x.name, .string x.owner] 72)
  have hrow := heap_alloc_new w (.cells #[.string x.name, .string x.owner] 72)
  have hsz := (show (w.alloc (.cells #[.string x.name, .string x.owner] 72)).heap.size = w.heap.size + 1 by simp)
  have hpw : ∀ i j (hi : i < l.length) (hj : j < l.length), i < j → ltT l[i].name l[j].name = true := fun i j hi hj hij => List.pairwise_iff_getElem.1 hp i j hi hj hij
  have HL := Lib.hid hl; have HH := Lib.hid h; have HG := Lib.hid hg; have HROW := Lib.hid hrow; have HSZ := Lib.hid hsz; have HPW := Lib.hid hpw
  clear h hl hg hrow hp hpw hsz
  go_enter Try.func100, Try.ntmps100
  go_wp2_with fail
  generalize hw0 : World.alloc w _ = w0 at *
  clear hw0
  go_loopw [9, 10, 11] (fun i j _ wr => ∃ p q : Nat, i = .int .i64 p ∧ j = .int .i64 q ∧ p ≤ q ∧ q ≤ n ∧ Hid ((∀ m (h : m < l.length), m < p → ltS l[m] x = true) ∧ (∀ m (h : m < l.length), q ≤ m → ltS l[m] x = false)) ∧ Gr w0 wr) (fun i j _ _ => (intOf j - intOf i).toNat)
  case atStart => exact ⟨0, n, rfl, rfl, Nat.zero_le _, Nat.le_refl _, Lib.hid ⟨fun m _ h => by omega, fun m h hm => by have := HL.out; omega⟩, Gr.refl _⟩
  case round =>
    obtain ⟨p, q, rfl, rfl, hpq, hqn, HI, hbw⟩ := hrel
    have hr := (hbw.below.block w.heap.size (by rw [HSZ.out]; omega)).trans HROW.out
    have HBW := Lib.hid (HG.out.trans hbw)
    by_cases hlt : p < q
    · obtain ⟨m, hm2⟩ : ∃ m, (p + q) / 2 = m := ⟨_, rfl⟩
      have hmn : p ≤ m ∧ m < q := by omega
      have hdiv : ((p : Int) + (q : Int)) / 2 = (m : Int) := by omega
      have lk : m < l.length := by rw [HL.out]; omega
      obtain ⟨b, o, y, rfl, hbB, hy, hcl⟩ := HH.out.at lk
      have hbl : b < w.heap.size := Nat.lt_of_lt_of_le hbB hB
      have hcg : ∀ j u, y[j]? = some u → ∀ n' os, (grow (wr.drewN n') os).cell? ⟨b, o + m * 2 + j, none⟩ = some u := fun j u hj n' os =>
        cell_grown (w := wr) (a := ⟨b, o + m * 2 + j, none⟩) (Nat.lt_of_lt_of_le hbl HBW.out.below.size) ((HBW.out.below.cell (p := ⟨b, o + m * 2 + j, none⟩) hbl).trans (hcl j u hj)) n' os
      obtain rfl : y = [.string l[m].name, .string l[m].owner] := hy
      have c0 := hcg 0 _ rfl
      have c1 := hcg 1 _ rfl
      simp only [Nat.add_zero] at c0
      have hlr := lt_of_block hr
      have d0 := fun n' os => cell_grown (w := wr) (a := ⟨w.heap.size, 0, none⟩) hlr (box_at hr 0 rfl) n' os
      have d1 := fun n' os => cell_grown (w := wr) (a := ⟨w.heap.size, 1, none⟩) hlr (box_at hr 1 rfl) n' os
      have k0 : (0 : Int) ≤ (m : Int) := by omega
      have k1 : (m : Int) < (n : Int) := by omega
      have HC := Lib.hid (prog_schord_any l[m] x)
      have HMN := Lib.hid hmn
      clear hcg hcl hr hlr hm2
      by_cases hq : ltT l[m].name x.name = true
      · have hq0 : decide (cmpI l[m].name x.name < 0) = true := decide_eq_true (cmpI_lt.2 hq)
        have HN := Lib.hid (show (∀ j (h : j < l.length), j < m + 1 → ltS l[j] x = true) ∧ (∀ j (h : j < l.length), q ≤ j → ltS l[j] x = false) from ⟨fun j h hj => by
          by_cases e : j = m
          · subst e; exact hq
          · exact ltT_trans (HPW.out j m h lk (by omega)) hq, HI.out.2⟩)
        generalize l[m] = y at *
        generalize cmpI y.name x.name = cq at *
        clear hq hmn
        go_wp2_with fail
        refine Go.wp_region_quiet_grown mixed (by kernel_rfl) ?_
        repeat (go_big_quiet_step (first | (go_at_call 59; exact gr_call HC.out)))
        refine Go.wpQuiet_nil ?_
        intro _ hw'
        obtain ⟨⟨nq, osq⟩, hw''⟩ := hw'
        subst hw''
        go_wp2_with fail
        go_roundw
        case rel => exact ⟨m + 1, q, by go_num, rfl, HMN.out.2, hqn, HN, hbw.trans (Gr.grown _ _ _)⟩
        case measure => have := HMN.out; simp [intOf]; omega
      · have hq0 : decide (cmpI l[m].name x.name < 0) = false := decide_eq_false fun h => hq (cmpI_lt.1 h)
        have HN := Lib.hid (show (∀ j (h : j < l.length), j < p → ltS l[j] x = true) ∧ (∀ j (h : j < l.length), m ≤ j → ltS l[j] x = false) from ⟨HI.out.1, fun j h hj => by
          have hq' : ltS l[m] x = false := Bool.eq_false_iff.2 hq
          by_cases e : j = m
          · subst e; exact hq'
          · cases hjx : ltS l[j] x with
            | false => rfl
            | true => exact absurd (ltT_trans (HPW.out m j lk h (by omega)) hjx) hq⟩)
        generalize l[m] = y at *
        generalize cmpI y.name x.name = cq at *
        clear hq hmn
        go_wp2_with fail
        refine Go.wp_region_quiet_grown mixed (by kernel_rfl) ?_
        repeat (go_big_quiet_step (first | (go_at_call 59; exact gr_call HC.out)))
        refine Go.wpQuiet_nil ?_
        intro _ hw'
        obtain ⟨⟨nq, osq⟩, hw''⟩ := hw'
        subst hw''
        go_wp2_with fail
        go_roundw
        case rel => exact ⟨p, m, rfl, by go_num, HMN.out.1, by have := HMN.out; omega, HN, hbw.trans (Gr.grown _ _ _)⟩
        case measure => have := HMN.out; simp [intOf]; omega
    · obtain rfl : p = q := by omega
      have HF := Lib.hid (posS_is (x := x) (l := l) (by rw [HL.out]; exact hqn) HI.out.1 HI.out.2)
      by_cases hpn : p < n
      · have lk : p < l.length := by rw [HL.out]; exact hpn
        obtain ⟨b, o, y, rfl, hbB, hy, hcl⟩ := HH.out.at lk
        have hbl : b < w.heap.size := Nat.lt_of_lt_of_le hbB hB
        have hcg : ∀ j u, y[j]? = some u → ∀ n' os, (grow (wr.drewN n') os).cell? ⟨b, o + p * 2 + j, none⟩ = some u := fun j u hj n' os =>
          cell_grown (w := wr) (a := ⟨b, o + p * 2 + j, none⟩) (Nat.lt_of_lt_of_le hbl HBW.out.below.size) ((HBW.out.below.cell (p := ⟨b, o + p * 2 + j, none⟩) hbl).trans (hcl j u hj)) n' os
        obtain rfl : y = [.string l[p].name, .string l[p].owner] := hy
        have c0 := hcg 0 _ rfl
        have c1 := hcg 1 _ rfl
        simp only [Nat.add_zero] at c0
        have hlr := lt_of_block hr
        have d0 := fun n' os => cell_grown (w := wr) (a := ⟨w.heap.size, 0, none⟩) hlr (box_at hr 0 rfl) n' os
        have d1 := fun n' os => cell_grown (w := wr) (a := ⟨w.heap.size, 1, none⟩) hlr (box_at hr 1 rfl) n' os
        have k0 : (0 : Int) ≤ (p : Int) := by omega
        have k1 : (p : Int) < (n : Int) := by omega
        have g1 : decide ((p : Int) < (n : Int)) = true := decide_eq_true k1
        have HC := Lib.hid (prog_schord_any l[p] x)
        clear hcg hcl hr hlr
        generalize l[p] = y at *
        generalize cmpI y.name x.name = cq at *
        go_wp2_with fail
        refine Go.wp_region_quiet_grown mixed (by kernel_rfl) ?_
        repeat (go_big_quiet_step (first | (go_at_call 59; exact gr_call HC.out)))
        refine Go.wpQuiet_nil ?_
        intro _ hw'
        obtain ⟨⟨nq, osq⟩, hw''⟩ := hw'
        subst hw''
        go_wp2_with fail
        go_ret2
        exact ⟨_, by rw [HF.out]; rfl, HBW.out.trans (Gr.grown _ _ _)⟩
      · have k1 : ¬ (p : Int) < (n : Int) := by omega
        have g1 : decide ((p : Int) < (n : Int)) = false := decide_eq_false k1
        go_wp2_with fail
        refine Go.wp_region_quiet_grown mixed (by kernel_rfl) ?_
        repeat (go_big_quiet_step (fail))
        refine Go.wpQuiet_nil ?_
        intro _ hw'
        obtain ⟨⟨nq, osq⟩, hw''⟩ := hw'
        subst hw''
        go_wp2_with fail
        go_ret2
        exact ⟨_, by rw [HF.out]; rfl, HBW.out.trans (Gr.grown _ _ _)⟩
end

section
/-! Layer 7, the program, by contract: Insert. -/
set_option linter.unusedVariables false
open Go.RowKit Go.Sort Go.Shelf Go.Lib

theorem run_copy_wide {P : Program} (w : World) (dT sT ty elem : TypeId) (i : TypeInfo) (sz b o dLen dCap : Nat) (a : Addr) (sLen sCap k : Nat) (cs : List Value)
    (hu : P.underlying dT = some (.slice elem)) (hi : P.info? elem = some i) (hs : i.size = sz) (hk : k = Nat.min sLen dLen) (hn : cs.length = k * sz)
    (hsrc : ∀ j v, cs[j]? = some v → w.cell? (a.add j) = some v) (hc : ∀ j, j < cs.length → (w.cell? ⟨b, o + j, none⟩).isSome = true) (hf : ∀ j, j < cs.length → w.frozen? ⟨b, o + j, none⟩ = false) (h1 : ∀ v ∈ cs, v.oneCell' = true) :
    (Builtin.copy_ #[dT, sT] ty #[.slice (some ⟨b, o, none⟩) dLen dCap, .slice (some a) sLen sCap]).run P w = .ok (goInt k) (w.setCells b o cs) := by
  have hl := run_loadCells_list (P := P) w a cs hsrc
  have hst := run_storeCells_cells (P := P) b o cs 0 w (by simpa using hc) (by simpa using hf) h1
  rw [hn] at hl
  simp [Builtin.copy_, run_underlying hu, Builtin.lenOf, Builtin.firstCells, sizeOf, typeInfo, hi, hs, ← hk, hl, hst]

theorem overlaps_sch (w : World) (b1 o1 b2 o2 la ca lb cb : Nat) (hne : b1 ≠ b2) (c1 c2 : Array Value) (t1 t2 : TypeId) (f1 f2 : Nat × Nat) (h1 : w.heap[b1]? = some (.cells c1 t1 (0, 0))) (h2 : w.heap[b2]? = some (.cells c2 t2 (0, 0))) (h0 : c2.size ≠ 0) :
    (callFunc 126 #[.slice (some ⟨b1, o1, none⟩) la ca, .slice (some ⟨b2, o2, none⟩) lb cb]).run Try.prog w = .ok (.value (.bool false)) w := by
  obtain ⟨i0, hi0, hz0, hs0, hb0⟩ := info_parts schInfo
  have hsa : w.shape? b1 = some (t1, c1.size) := by unfold World.shape?; rw [h1]
  have hsb : w.shape? b2 = some (t2, c2.size) := by unfold World.shape?; rw [h2]
  rw [run_callFunc_extern (fn := Try.f126) (by kernel_rfl) (by kernel_rfl) (by kernel_rfl) (by kernel_rfl) (e := Extern.SlicesOverlaps.overlaps #[23, 23] #[4]) (by kernel_rfl),
    Lib.run_overlaps_apart w 23 4 72 Try.underlying23 2 (fun w => by simp [Go.sizeOf, typeInfo, hi0, hs0]) ⟨b1, o1, none⟩ ⟨b2, o2, none⟩ la ca lb cb hne t1 t2 c1.size c2.size hsa hsb h0 (frozen_of_row w b1 o1 _ _ h1) (frozen_of_row w b1 c1.size _ _ h1)]
  rfl

set_option maxHeartbeats 4000000 in
set_option maxRecDepth 100000 in
/-- There is room, ahead of the end: in place. -/
theorem prog_ins_shift_sch (g n c i vb vc : Nat) (cs vs : List Value) (cg cv : Array Value) (tg tv : TypeId) (w : World) (hi : i < n) (hroom : n + 1 ≤ c) (hc63 : c ≤ 9223372036854775807) (hvb : vb ≠ g) (hcl : cs.length = n * 2) (hvl : vs.length = 2)
    (hcs : ∀ j v, cs[j]? = some v → w.cell? ⟨g, j, none⟩ = some v) (hg : w.heap[g]? = some (.cells cg tg (0, 0))) (hgs : cg.size = c * 2) (hv : w.heap[vb]? = some (.cells cv tv (0, 0)))
    (hvs : ∀ j v, vs[j]? = some v → w.cell? ⟨vb, j, none⟩ = some v) (h1c : ∀ v ∈ cs, v.oneCell' = true) (h1v : ∀ v ∈ vs, v.oneCell' = true) :
    Calls Try.prog 101 #[.slice (some ⟨g, 0, none⟩) n c, .int .i64 i, .slice (some ⟨vb, 0, none⟩) 1 vc] w fun e w' =>
      e = .returned (.slice (some ⟨g, 0, none⟩) (n + 1) c) ∧ w' = (w.drew.setCells g ((i + 1) * 2) (cs.drop (i * 2))).setCells g (i * 2) vs := by
  have mixed := mixed_ok
  have hz1 : ¬ ((1 : Int) = 0) := by omega
  have hz2 : ¬ ((i : Int) = (n : Int)) := by omega
  obtain ⟨i0, hi0, hz0, hs0, hb0⟩ := info_parts schInfo
  have hsz : (Try.prog.info? 72).map (·.size) = some 2 := by rw [hi0]; simp [hs0]
  have hsp : ∀ j, j < (n + 1) * 2 → (w.cell? ⟨g, j, none⟩).isSome = true := fun j hj => by
    rw [cell_of_row _ _ _ _ _ _ hg, Array.getElem?_eq_getElem (by omega)]; rfl
  have hfz : ∀ j, w.frozen? ⟨g, j, none⟩ = false := fun j => frozen_of_row w g j _ _ hg
  have hov : ∀ lb cb, (callFunc 126 #[.slice (some ⟨vb, 0, none⟩) 1 vc, .slice (some ⟨g, (i + 1) * 2, none⟩) lb cb]).run Try.prog w = .ok (.value (.bool false)) w := fun lb cb =>
    overlaps_sch w vb 0 g ((i + 1) * 2) 1 vc lb cb hvb cv cg tv tg (0, 0) (0, 0) hv hg (by omega)
  have hdl : (cs.drop (i * 2)).length = (n - i) * 2 := by rw [List.length_drop, hcl]; omega
  have hb1 : (0 : Int) ≤ (i : Int) + 1 := by omega
  have hw1 : IntKind.i64.wrap ((i : Int) + 1) = (i : Int) + 1 := by rw [IntKind.wrap_i64]; omega
  have hin : i ≤ n := by omega
  have htn : ((i : Int) + 1).toNat = i + 1 := by omega
  have hb2 : ¬ (c = i + 1) := by omega
  have hb3 : (i : Int) ≤ (n : Int) + 1 := by omega
  have hb4 : ¬ (c = i) := by omega
  have hcp1 : ∀ ty dc sc, (Builtin.copy_ #[23, 23] ty #[.slice (some ⟨g, (i + 1) * 2, none⟩) (n - i) dc, .slice (some ⟨g, i * 2, none⟩) (n + 1 - i) sc]).run Try.prog w.drew = .ok (goInt ((n - i : Nat) : Int)) (w.drew.setCells g ((i + 1) * 2) (cs.drop (i * 2))) := fun ty dc sc => by
    exact run_copy_wide w.drew _ _ ty 72 i0 2 g ((i + 1) * 2) (n - i) dc ⟨g, i * 2, none⟩ (n + 1 - i) sc (n - i) (cs.drop (i * 2)) Try.underlying23 hi0 hs0 (by simp only [Nat.min_def]; split <;> omega) hdl
      (fun j v hj => by rw [Addr.add_lit]; exact hcs (i * 2 + j) v (by rwa [List.getElem?_drop] at hj))
      (fun j hj => hsp _ (by rw [hdl] at hj; omega)) (fun j hj => hfz _) (fun v hv => h1c v (List.mem_of_mem_drop hv))
  obtain ⟨W1, hW1⟩ : ∃ W1, W1 = w.drew.setCells g ((i + 1) * 2) (cs.drop (i * 2)) := ⟨_, rfl⟩
  have hsp1 : ∀ k, k < (n + 1) * 2 → (W1.cell? ⟨g, k, none⟩).isSome = true := fun k hk => by
    rw [hW1]
    exact isSome_setCells g (cs.drop (i * 2)) ((i + 1) * 2) w.drew (fun j hj => hsp _ (by rw [hdl] at hj; omega)) k (hsp k hk)
  have hcp2 : ∀ (W : World), (∀ x, W.cell? x = W1.cell? x) → (∀ x, W.frozen? x = W1.frozen? x) → ∀ ty dc, (Builtin.copy_ #[23, 23] ty #[.slice (some ⟨g, i * 2, none⟩) (n + 1 - i) dc, .slice (some ⟨vb, 0, none⟩) 1 vc]).run Try.prog W = .ok (goInt 1) (W.setCells g (i * 2) vs) := fun W hWc hWf ty dc =>
    run_copy_wide W _ _ ty 72 i0 2 g (i * 2) (n + 1 - i) dc ⟨vb, 0, none⟩ 1 vc 1 vs Try.underlying23 hi0 hs0 (by simp only [Nat.min_def]; split <;> omega) (by rw [hvl])
      (fun j v hj => by
        rw [Addr.add_lit, Nat.zero_add, hWc, hW1, World.cell?_setCells_out g _ _ _ _ (fun h _ => absurd h hvb)]
        exact hvs j v hj)
      (fun j hj => by rw [hWc]; exact hsp1 _ (by omega)) (fun j hj => by rw [hWf, hW1, World.frozen?_setCells]; exact hfz _) h1v
  rw [← hW1] at hcp1
  go_enter Try.func101, Try.ntmps101
  go_wp2_with (simp only [hov])
  go_region_law_o (refine step_copy_runI rfl _ _ 23 23 rfl _ _ (by simp [Act.eval, Act.put]) (by simp [Act.eval, Act.put]) (hcp1 _ _ _) ?_)
  go_wp2_with (at_builtin; refine wpList_copy_runI _ rfl _ _ 23 23 rfl _ _ rfl rfl (hcp2 _ (fun _ => rfl) (fun _ => rfl) _ _) ?_)
  go_ret
  first | exact ⟨rfl, rfl⟩ | exact ⟨rfl, by rw [hW1]⟩

set_option maxHeartbeats 4000000 in
set_option maxRecDepth 100000 in
/-- There is no room, ahead of the end: a new row. -/
theorem prog_ins_grow_sch (g n c i vb vc : Nat) (cs vs : List Value) (w : World) (hi : i < n) (hnc : n ≤ c) (hroom : c < n + 1) (hbig : n ≤ 3000) (hcl : cs.length = n * 2) (hvl : vs.length = 2)
    (hcs : ∀ j v, cs[j]? = some v → w.cell? ⟨g, j, none⟩ = some v) (hvs : ∀ j v, vs[j]? = some v → w.cell? ⟨vb, j, none⟩ = some v) (h1c : ∀ v ∈ cs, v.oneCell' = true) (h1v : ∀ v ∈ vs, v.oneCell' = true) :
    Calls Try.prog 101 #[.slice (some ⟨g, 0, none⟩) n c, .int .i64 i, .slice (some ⟨vb, 0, none⟩) 1 vc] w fun e w' =>
      ∃ (G : Nat) (ROW : Array Value) (z : Array Value), n + 1 ≤ G ∧ G ≤ maxLen ∧ ROW.size = G * 2 ∧ ROW = (cs.take (i * 2)).toArray ++ z ∧ e = .returned (.slice (some ⟨w.heap.size, 0, none⟩) (n + 1) G) ∧
      w' = (((w.alloc (.cells ROW 72)).drew.setCells w.heap.size (i * 2) vs).drew).setCells w.heap.size ((i + 1) * 2) (cs.drop (i * 2)) := by
  have mixed := mixed_ok
  obtain ⟨i0, hi0, hz0, hzs, hzb⟩ := info_parts schInfo
  have hz1 : ¬ ((1 : Int) = 0) := by omega
  have hz2 : ¬ ((i : Int) = (n : Int)) := by omega
  have hz3 : (c : Int) < (n : Int) + 1 := by omega
  have hbw : g < w.heap.size := block_lt_of_cell (hcs 0 _ (List.getElem?_eq_getElem (by omega)))
  have hvw : vb < w.heap.size := block_lt_of_cell (hvs 0 _ (List.getElem?_eq_getElem (by omega)))
  have hkk : (n : Int) + 1 - (i : Int) = ((n + 1 - i : Nat) : Int) := by omega
  have hik : i + (n + 1 - i) = n + 1 := by omega
  have hold : (Builtin.firstCells i0.size i (.slice (some ⟨g, 0, none⟩) i c)).run Try.prog w.drew = .ok (cs.take (i * 2)).toArray w.drew := by
    rw [hzs]
    exact run_firstCells_some w.drew 2 i ⟨g, 0, none⟩ i c (cs.take (i * 2)) (by rw [List.length_take]; omega) (fun j v hj => by
      rw [Addr.add_lit, Nat.zero_add]
      rw [List.getElem?_take] at hj
      split at hj
      · exact hcs j v hj
      · cases hj)
  obtain ⟨G, hG⟩ : ∃ G, G = grownCap w (n + 1) c 72 := ⟨_, rfl⟩
  obtain ⟨Z, hZ⟩ : ∃ Z : Array Value, Z = Builtin.zeroCells (Value.agg #[.string ⟨#[]⟩, .string ⟨#[]⟩]).cells (n + 1 - i) ++ Builtin.zeroCells (Value.agg #[.string ⟨#[]⟩, .string ⟨#[]⟩]).cells (G - (n + 1)) := ⟨_, rfl⟩
  obtain ⟨ROW, hROW⟩ : ∃ ROW : Array Value, ROW = (cs.take (i * 2)).toArray ++ Z := ⟨_, rfl⟩
  have hGn : n + 1 ≤ G := by rw [hG]; exact grownCap_ge w _ _ _
  have hG63 : G ≤ 9223372036854775807 := by
    have := grownCap_le_maxLen w (n + 1) c 72 (by unfold maxLen; omega)
    rw [← hG] at this
    unfold maxLen at this
    omega
  have hRs : ROW.size = G * 2 := by
    rw [hROW, hZ]
    simp only [Array.size_append, size_zeroCells, List.size_toArray, List.length_take]
    have : (Value.agg #[.string ⟨#[]⟩, .string ⟨#[]⟩]).cells.size = 2 := rfl
    rw [this]
    omega
  have hrz : ∀ ty, (Builtin.append_ #[23, 3] ty #[.slice (some ⟨g, 0, none⟩) i c, .int .i64 ((n : Int) + 1 - (i : Int))]).run Try.prog w =
      .ok (.slice (some ⟨w.heap.size, 0, none⟩) (n + 1) G) (w.drew.alloc (.cells ROW 72)) := fun ty => by
    have h := Lib.run_append_grow_zeros w 23 3 ty 72 i0 _ .i64 .i64 Try.underlying23 Try.underlying3 hi0 hz0 (some ⟨g, 0, none⟩) i c (cs.take (i * 2)) hold (n + 1 - i) (by omega) (by omega) (by omega) (by omega) (by rw [hzb]; omega) (by rw [hzb, hik]; exact growslice_fits hroom (by omega))
    rw [hik, ← hG] at h
    rw [hkk, hROW, hZ, h, Array.append_assoc]
  obtain ⟨W1, hW1⟩ : ∃ W1, W1 = w.drew.alloc (.cells ROW 72) := ⟨_, rfl⟩
  rw [← hW1] at hrz
  have hN : ∀ j, j < (n + 1) * 2 → (W1.cell? ⟨w.heap.size, j, none⟩).isSome = true := fun j hj => by
    rw [hW1, World.cell?_alloc_at (w := w.drew) ROW _ w.heap.size j rfl, Array.getElem?_eq_getElem (by omega)]; rfl
  have hNf : ∀ j, W1.frozen? ⟨w.heap.size, j, none⟩ = false := fun j => by rw [hW1]; exact World.frozen?_alloc_at (w := w.drew) ROW _ w.heap.size j rfl
  have hOb : ∀ j v, w.cell? ⟨g, j, none⟩ = some v → W1.cell? ⟨g, j, none⟩ = some v := fun j v h => by rw [hW1, World.cell?_alloc_past (w := w.drew) _ g j hbw]; exact h
  have hOv : ∀ j v, w.cell? ⟨vb, j, none⟩ = some v → W1.cell? ⟨vb, j, none⟩ = some v := fun j v h => by rw [hW1, World.cell?_alloc_past (w := w.drew) _ vb j hvw]; exact h
  have hcpA : ∀ (W : World), (∀ x, W.cell? x = W1.cell? x) → (∀ x, W.frozen? x = W1.frozen? x) → ∀ ty dc, (Builtin.copy_ #[23, 23] ty #[.slice (some ⟨w.heap.size, i * 2, none⟩) (n + 1 - i) dc, .slice (some ⟨vb, 0, none⟩) 1 vc]).run Try.prog W = .ok (goInt 1) (W.setCells w.heap.size (i * 2) vs) := fun W hWc hWf ty dc =>
    run_copy_wide W _ _ ty 72 i0 2 w.heap.size (i * 2) (n + 1 - i) dc ⟨vb, 0, none⟩ 1 vc 1 vs Try.underlying23 hi0 hzs (by simp only [Nat.min_def]; split <;> omega) (by rw [hvl])
      (fun j v hj => by rw [Addr.add_lit, Nat.zero_add, hWc]; exact hOv _ v (hvs j v hj))
      (fun j hj => by rw [hWc]; exact hN _ (by omega)) (fun j hj => by rw [hWf]; exact hNf _) h1v
  have hGi : ¬ (G = i) := by omega
  have hGim : ¬ (G = i + 1) := by omega
  have hci : ¬ (c = i) := by omega
  have hbN : g ≠ w.heap.size := by omega
  have hdl : (cs.drop (i * 2)).length = (n - i) * 2 := by rw [List.length_drop, hcl]; omega
  have hcpB : ∀ (W : World), (∀ x, W.cell? x = (W1.setCells w.heap.size (i * 2) vs).cell? x) → (∀ x, W.frozen? x = (W1.setCells w.heap.size (i * 2) vs).frozen? x) → ∀ ty dc sc, (Builtin.copy_ #[23, 23] ty #[.slice (some ⟨w.heap.size, (i + 1) * 2, none⟩) (n - i) dc, .slice (some ⟨g, i * 2, none⟩) (n - i) sc]).run Try.prog W = .ok (goInt ((n - i : Nat) : Int)) (W.setCells w.heap.size ((i + 1) * 2) (cs.drop (i * 2))) := fun W hWc hWf ty dc sc =>
    run_copy_wide W _ _ ty 72 i0 2 w.heap.size ((i + 1) * 2) (n - i) dc ⟨g, i * 2, none⟩ (n - i) sc (n - i) (cs.drop (i * 2)) Try.underlying23 hi0 hzs (by simp only [Nat.min_def]; split <;> omega) hdl
      (fun j v hj => by
        rw [Addr.add_lit, hWc, World.cell?_setCells_out _ _ _ _ _ (fun h _ => absurd h hbN)]
        exact hOb _ v (hcs (i * 2 + j) v (by rwa [List.getElem?_drop] at hj)))
      (fun j hj => by rw [hWc]; exact isSome_setCells _ _ _ _ (fun t ht => hN _ (by rw [hvl] at ht; omega)) _ (hN _ (by rw [hdl] at hj; omega)))
      (fun j hj => by rw [hWf, World.frozen?_setCells]; exact hNf _) (fun v hv => h1c v (List.mem_of_mem_drop hv))
  subst hW1
  have hE1 : ∀ x, ((w.alloc (.cells ROW 72)).drew).cell? x = (w.drew.alloc (.cells ROW 72)).cell? x := fun x => rfl
  have hE2 : ∀ x, ((w.alloc (.cells ROW 72)).drew).frozen? x = (w.drew.alloc (.cells ROW 72)).frozen? x := fun x => rfl
  have hF1 : ∀ x, (((w.alloc (.cells ROW 72)).drew.setCells w.heap.size (i * 2) vs).drew).cell? x = ((w.drew.alloc (.cells ROW 72)).setCells w.heap.size (i * 2) vs).cell? x := fun x => rfl
  have hF2 : ∀ x, (((w.alloc (.cells ROW 72)).drew.setCells w.heap.size (i * 2) vs).drew).frozen? x = ((w.drew.alloc (.cells ROW 72)).setCells w.heap.size (i * 2) vs).frozen? x := fun x => rfl
  have hw1 : IntKind.i64.wrap ((i : Int) + 1) = (i : Int) + 1 := by rw [IntKind.wrap_i64]; omega
  have hb1 : (0 : Int) ≤ (i : Int) + 1 := by omega
  have hin : i ≤ n := by omega
  have htn : ((i : Int) + 1).toNat = i + 1 := by omega
  have hb3 : (i : Int) ≤ (n : Int) := by omega
  have HFIN := Lib.hid (And.intro hGn (And.intro (show G ≤ maxLen by unfold maxLen; omega) (And.intro hRs hROW)))
  clear hkk hik hold hROW hG hRs hZ
  go_enter Try.func101, Try.ntmps101
  go_wp2_with (first
    | (at_builtin; refine Lib.wpList_append_run _ rfl _ _ _ _ rfl _ _ rfl rfl _ _ (hrz _) ?_)
    | (at_builtin; refine wpList_copy_runI _ rfl _ _ 23 23 rfl _ _ rfl rfl (hcpA _ hE1 hE2 _ _) ?_)
    | (at_builtin; refine wpList_copy_runI _ rfl _ _ 23 23 rfl _ _ rfl rfl (hcpB _ (fun _ => rfl) (fun _ => rfl) _ _ _) ?_))
  go_region_law_o (refine step_copy_runI rfl _ _ 23 23 rfl (.slice (some ⟨w.heap.size, (i + 1) * 2, none⟩) (n - i) (G - (i + 1))) (.slice (some ⟨g, i * 2, none⟩) (n - i) (c - i)) (by simp [Act.eval, Act.put]) (by simp [Act.eval, Act.put]) (hcpB _ hF1 hF2 3 (G - (i + 1)) (c - i)) ?_)
  go_wp2
  go_ret
  exact ⟨G, ROW, Z, HFIN.out.1, HFIN.out.2.1, HFIN.out.2.2.1, HFIN.out.2.2.2, rfl, rfl⟩
end

section
/-! Layer 7, the program, by contract: insert. -/
set_option linter.unusedVariables false
open Go.RowKit Go.Sort Go.Shelf Go.Lib

theorem setL_eq : ∀ (vs : List Value) (o : Nat) (L : List Value), o + vs.length ≤ L.length → setL L o vs = L.take o ++ (vs ++ L.drop (o + vs.length))
  | [], o, L, h => by simp [setL]
  | v :: r, o, L, h => by
    simp only [List.length_cons] at h
    show setL (L.set o v) (o + 1) r = _
    rw [setL_eq r (o + 1) (L.set o v) (by rw [List.length_set]; omega), List.take_add_one, List.getElem?_set_self (by omega), List.take_set_of_le (Nat.le_refl o), List.drop_set_of_lt (by omega)]
    simp only [Option.toList_some, List.append_assoc, List.cons_append, List.nil_append, List.length_cons]
    rw [show o + 1 + r.length = o + (r.length + 1) by omega]
theorem setCells_row {g : Nat} {t : TypeId} : ∀ (vs : List Value) (o : Nat) (w : World) (L : List Value), w.heap[g]? = some (.cells L.toArray t (0, 0)) → (w.setCells g o vs).heap[g]? = some (.cells (setL L o vs).toArray t (0, 0))
  | [], _, _, _, h => h
  | v :: r, o, w, L, h => setCells_row r (o + 1) _ (L.set o v) (by rw [← List.setIfInBounds_toArray]; exact heap_setCell_same w g o _ t v h)
theorem flat_split {sz : Nat} : ∀ {xss : List (List Value)} (i : Nat), (∀ x ∈ xss, x.length = sz) → (xss.take i).flatten = xss.flatten.take (i * sz) ∧ (xss.drop i).flatten = xss.flatten.drop (i * sz)
  | [], i, _ => by simp
  | x :: r, 0, _ => by simp
  | x :: r, i + 1, h => by
    obtain ⟨h1, h2⟩ := flat_split (xss := r) i fun y hy => h y (List.mem_cons_of_mem _ hy)
    have hx := h x (List.mem_cons_self ..)
    rw [List.take_succ_cons, List.drop_succ_cons, List.flatten_cons, List.flatten_cons, h1, h2, List.take_append, List.drop_append, hx, show (i + 1) * sz - sz = i * sz by rw [Nat.succ_mul]; omega]
    have h3 : sz ≤ (i + 1) * sz := by rw [Nat.succ_mul]; omega
    have h4 : x.take ((i + 1) * sz) = x := List.take_of_length_le (by rw [hx]; exact h3)
    have h5 : x.drop ((i + 1) * sz) = [] := List.drop_of_length_le (by rw [hx]; exact h3)
    exact ⟨by rw [h4], by rw [h5, List.nil_append]⟩
def insAt {α : Type} (l : List α) (i : Nat) (x : α) : List α := l.take i ++ x :: l.drop i
theorem insAt_get {α β : Type} {P : α → β → Prop} {l : List α} {m : List β} {i : Nat} {x : α} {y : β} (hl : l.length = m.length) (hi : i ≤ l.length) (h : ∀ (j : Nat) a b, l[j]? = some a → m[j]? = some b → P a b) (hx : P x y) :
    ∀ (j : Nat) a b, (insAt l i x)[j]? = some a → (insAt m i y)[j]? = some b → P a b := by
  intro j a b ha hb
  unfold insAt at ha hb
  have h1 : (l.take i).length = i := by rw [List.length_take]; omega
  have h2 : (m.take i).length = i := by rw [List.length_take]; omega
  by_cases hj : j < i
  · rw [List.getElem?_append_left (by omega), List.getElem?_take, if_pos hj] at ha hb
    exact h j a b ha hb
  · rw [List.getElem?_append_right (by omega), h1] at ha
    rw [List.getElem?_append_right (by omega), h2] at hb
    obtain ⟨k, hk⟩ : ∃ k, j - i = k := ⟨_, rfl⟩
    rw [hk] at ha hb
    cases k with
    | zero => simp only [List.getElem?_cons_zero, Option.some.injEq] at ha hb; subst ha hb; exact hx
    | succ k =>
      simp only [List.getElem?_cons_succ, List.getElem?_drop] at ha hb
      exact h _ a b ha hb
/-- A row whose cells are known reads as the list with x laid in. -/
theorem ins_own {W : World} {B g n G i : Nat} {l : List Sch} {x : Sch} {xss : List (List Value)} {rest : List Value} (hg : W.heap[g]? = some (.cells (xss.flatten.take (i * 2) ++ ([Value.string x.name, Value.string x.owner] ++ (xss.flatten.drop (i * 2) ++ rest))).toArray 72 (0, 0)))
    (hB : B ≤ g) (hl : l.length = n) (hxl : xss.length = n) (hi : i ≤ n) (hG : n + 1 ≤ G) (hG2 : G ≤ maxLen) (hsz : (xss.flatten.take (i * 2) ++ ([Value.string x.name, Value.string x.owner] ++ (xss.flatten.drop (i * 2) ++ rest))).length = G * 2)
    (hel : ∀ (i : Nat) x y, xss[i]? = some x → l[i]? = some y → schP x y) (hxs : ∀ x ∈ xss, x.length = 2) : OwnX schQ W B 72 2 (.slice (some ⟨g, 0, none⟩) (n + 1) G) (insAt l i x) := by
  obtain ⟨f1, f2⟩ := flat_split i hxs
  obtain ⟨hf, _⟩ := flat_at hxs
  have hlen : (insAt l i x).length = n + 1 := by unfold insAt; simp only [List.length_append, List.length_cons, List.length_take, List.length_drop]; omega
  have hfl : (insAt xss i [Value.string x.name, Value.string x.owner]).flatten = xss.flatten.take (i * 2) ++ ([Value.string x.name, Value.string x.owner] ++ xss.flatten.drop (i * 2)) := by
    unfold insAt
    rw [List.flatten_append, List.flatten_cons, f1, f2]
  have hcl : (insAt xss i [Value.string x.name, Value.string x.owner]).flatten.length = (n + 1) * 2 := by
    rw [hfl]; simp only [List.length_append, List.length_take, List.length_drop, List.length_cons, List.length_nil, hf, hxl]; omega
  refine ⟨insAt xss i [Value.string x.name, Value.string x.owner], ?_, by rw [hlen]; unfold insAt; simp only [List.length_append, List.length_cons, List.length_take, List.length_drop]; omega, fun j a b ha hb => insAt_get (P := fun a b => schP a b) (by rw [hl, hxl]) (by rw [hxl]; exact hi) hel rfl j a b ha hb⟩
  rw [hlen]
  refine ⟨hcl, .inr ⟨g, G, _, rfl, hB, hg, hG, hG2, by simpa using hsz, ?_⟩⟩
  rw [← List.append_assoc ([Value.string x.name, Value.string x.owner] : List Value), ← List.append_assoc, ← hfl, List.take_append_of_le_length (by rw [hcl]; exact Nat.le_refl _), List.take_of_length_le (by rw [hcl]; exact Nat.le_refl _)]

def InsPost (w : World) (B : Nat) (v : Value) (l : List Sch) (e : Ending) (w' : World) : Prop := ∃ v', e = .returned v' ∧ OwnX schQ w' B 72 2 v' l ∧ w.grownBy w' v.ownBlock

set_option maxHeartbeats 4000000 in
set_option maxRecDepth 100000 in
theorem prog_ins_sch (B i vb vc : Nat) (v : Value) (l : List Sch) (x : Sch) (t : TypeId) (w : World) (h : OwnX schQ w B 72 2 v l) (hB : B ≤ w.heap.size) (hi : i ≤ l.length) (hn : l.length ≤ 3000) (hv : w.heap[vb]? = some (.cells #[.string x.name, .string x.owner] t (0, 0))) (hvb : v.ownBlock ≠ some vb) :
    Calls Try.prog 101 #[v, .int .i64 i, .slice (some ⟨vb, 0, none⟩) 1 vc] w (InsPost w B v (insAt l i x)) := by
  obtain ⟨xss, hown, hxl, hel⟩ := h
  have hel' : ∀ (i : Nat) x y, xss[i]? = some x → l[i]? = some y → schP x y := hel
  have hxs : ∀ x ∈ xss, x.length = 2 := by
    intro y hy
    obtain ⟨j, hj, rfl⟩ := List.mem_iff_getElem.1 hy
    rw [hel' j _ l[j] (List.getElem?_eq_getElem hj) (List.getElem?_eq_getElem (by omega))]; rfl
  have h1c : ∀ u ∈ xss.flatten, u.oneCell' = true := by
    intro u hu
    obtain ⟨y, hy, hu⟩ := List.mem_flatten.1 hu
    obtain ⟨j, hj, rfl⟩ := List.mem_iff_getElem.1 hy
    have := hel' j _ l[j] (List.getElem?_eq_getElem hj) (List.getElem?_eq_getElem (by omega))
    unfold schP at this
    rw [this] at hu
    simp at hu
    rcases hu with rfl | rfl <;> rfl
  obtain ⟨hfl, _⟩ := flat_at hxs
  have hvs : ∀ j u, ([Value.string x.name, Value.string x.owner])[j]? = some u → w.cell? ⟨vb, j, none⟩ = some u := fun j u hj => by
    rw [cell_of_row _ _ _ _ _ _ hv]; simpa using hj
  have h1v : ∀ u ∈ [Value.string x.name, Value.string x.owner], u.oneCell' = true := by intro u hu; simp at hu; rcases hu with rfl | rfl <;> rfl
  obtain ⟨n, hn2⟩ : ∃ n, l.length = n := ⟨_, rfl⟩
  rw [hn2] at hi hn hown hxl
  by_cases hin : i = n
  · subst hin
    obtain ⟨i0, ci, cz0, cz1, cz2⟩ := info_parts schInfo
    have HOWN := Lib.hid hown
    have hfin : ∀ v' w', w'.ownsRow B 72 2 v' (i + 1) (xss.flatten ++ [Value.string x.name, Value.string x.owner]) → OwnX schQ w' B 72 2 v' (insAt l i x) := fun v' w' ho => by
      have hlen : (insAt l i x).length = i + 1 := by unfold insAt; simp only [List.length_append, List.length_cons, List.length_take, List.length_drop]; omega
      have hfl2 : (insAt xss i [Value.string x.name, Value.string x.owner]).flatten = xss.flatten ++ [Value.string x.name, Value.string x.owner] := by
        unfold insAt
        rw [List.take_of_length_le (by omega), List.drop_of_length_le (by omega)]
        simp
      refine ⟨insAt xss i [Value.string x.name, Value.string x.owner], by rw [hlen, hfl2]; exact ho, by rw [hlen]; unfold insAt; simp only [List.length_append, List.length_cons, List.length_take, List.length_drop]; omega, fun j a b ha hb => insAt_get (P := fun a b => schP a b) (by omega) (by omega) hel' rfl j a b ha hb⟩
    have hz1 : ¬ ((1 : Int) = 0) := by omega
    have hform : ∃ a c, v = .slice a i c ∧ i ≤ c ∧ c ≤ maxLen := by
      rcases hown.2 with ⟨rfl, h0⟩ | ⟨g, c, cur, rfl, _, _, h1, h2, _⟩
      · exact ⟨none, 0, by rw [h0], by omega, by unfold maxLen; omega⟩
      · exact ⟨_, c, rfl, h1, h2⟩
    obtain ⟨a, c, rfl, hc1, hc2⟩ := hform
    unfold maxLen at hc2
    have HV := Lib.hid hvs; have HF := Lib.hid hfin; have H1 := Lib.hid h1v
    clear hown hv hvs hfin h1v h1c hel' hel hxs hfl
    go_enter Try.func101, Try.ntmps101
    cases a with
    | none =>
      go_wp2_with (at_builtin; refine wpList_append_own_wide w rfl _ _ 23 rfl B 72 i0 _ 2 32 Try.underlying23 ci cz0 cz1 cz2 rfl (by decide) _ i xss.flatten rfl HOWN.out ⟨vb, 0, none⟩ 1 vc [Value.string x.name, Value.string x.owner] rfl rfl (fun j u hj => by rw [Addr.add_lit, Nat.zero_add]; exact HV.out j u hj) H1.out (by unfold maxLen; omega) (by omega) hB ?_; intro v' w' ho hgr _)
      all_goals (go_ret; exact ⟨_, rfl, HF.out _ _ ho, hgr⟩)
    | some ad =>
      obtain ⟨gb, go, gs⟩ := ad
      go_wp2_with (at_builtin; refine wpList_append_own_wide w rfl _ _ 23 rfl B 72 i0 _ 2 32 Try.underlying23 ci cz0 cz1 cz2 rfl (by decide) _ i xss.flatten rfl HOWN.out ⟨vb, 0, none⟩ 1 vc [Value.string x.name, Value.string x.owner] rfl rfl (fun j u hj => by rw [Addr.add_lit, Nat.zero_add]; exact HV.out j u hj) H1.out (by unfold maxLen; omega) (by omega) hB ?_; intro v' w' ho hgr _)
      all_goals (go_ret; exact ⟨_, rfl, HF.out _ _ ho, hgr⟩)
  · have hlt : i < n := by omega
    rcases hown with ⟨hlen, ⟨rfl, h0⟩ | ⟨g, c, cur, rfl, hgB, hg, hnc, hcm, hcs, htk⟩⟩
    · omega
    have hvg : vb ≠ g := fun e => hvb (by rw [e]; rfl)
    have hcl : xss.flatten.length = n * 2 := hlen
    have hcs2 : ∀ j u, xss.flatten[j]? = some u → w.cell? ⟨g, j, none⟩ = some u := fun j u hj => by
      rw [cell_of_row _ _ _ _ _ _ hg]
      rw [← htk, List.getElem?_take] at hj
      split at hj
      · simpa using hj
      · cases hj
    by_cases hroom : n + 1 ≤ c
    · refine (prog_ins_shift_sch g n c i vb vc xss.flatten [Value.string x.name, Value.string x.owner] cur _ _ t w hlt hroom (by unfold maxLen at hcm; omega) hvg hcl rfl hcs2 hg hcs hv hvs h1c h1v).mono ?_
      rintro e w' ⟨rfl, rfl⟩
      have hcL : cur.toList.length = c * 2 := by simpa using hcs
      have hdl : (xss.flatten.drop (i * 2)).length = (n - i) * 2 := by rw [List.length_drop, hcl]; omega
      have r1 := setCells_row (xss.flatten.drop (i * 2)) ((i + 1) * 2) w.drew cur.toList (by rw [Array.toArray_toList]; exact hg)
      have r2 := setCells_row [Value.string x.name, Value.string x.owner] (i * 2) _ _ r1
      rw [setL_eq (xss.flatten.drop (i * 2)) ((i + 1) * 2) cur.toList (by rw [hcL, hdl]; omega), hdl] at r2
      rw [setL_eq _ _ _ (by simp only [List.length_append, List.length_take, List.length_drop, List.length_cons, List.length_nil, hcL, hcl]; omega)] at r2
      have e1 : (cur.toList.take ((i + 1) * 2) ++ (xss.flatten.drop (i * 2) ++ cur.toList.drop ((i + 1) * 2 + (n - i) * 2))).take (i * 2) = xss.flatten.take (i * 2) := by
        rw [List.take_append_of_le_length (by rw [List.length_take]; omega), ← htk, List.take_take, List.take_take]
        congr 1
        omega
      have e2 : (cur.toList.take ((i + 1) * 2) ++ (xss.flatten.drop (i * 2) ++ cur.toList.drop ((i + 1) * 2 + (n - i) * 2))).drop (i * 2 + 2) = xss.flatten.drop (i * 2) ++ cur.toList.drop ((i + 1) * 2 + (n - i) * 2) := by
        have h9 : (cur.toList.take ((i + 1) * 2)).length = i * 2 + 2 := by rw [List.length_take]; omega
        rw [List.drop_append, h9, Nat.sub_self, List.drop_zero, List.drop_of_length_le (l := cur.toList.take ((i + 1) * 2)) (by rw [h9]; exact Nat.le_refl _), List.nil_append]
      rw [show i * 2 + ([Value.string x.name, Value.string x.owner]).length = i * 2 + 2 from rfl, e1, e2] at r2
      refine ⟨_, rfl, ins_own r2 hgB hn2 hxl hi hroom hcm ?_ hel' hxs, ?_⟩
      · simp only [List.length_append, List.length_take, List.length_drop, List.length_cons, List.length_nil, hcL, hcl]; omega
      · have hk : Keeps (· ≠ g) w ((w.drew.setCells g ((i + 1) * 2) (xss.flatten.drop (i * 2))).setCells g (i * 2) [Value.string x.name, Value.string x.owner]) := ((Keeps.refl.drew).trans (keeps_setCells _ _ _)).trans (keeps_setCells _ _ _)
        exact ⟨hk.os, hk.tape, hk.output, hk.size, fun k h1 h2 => hk.block k h1 fun e => h2 (by rw [e]; rfl)⟩
    · refine (prog_ins_grow_sch g n c i vb vc xss.flatten [Value.string x.name, Value.string x.owner] w hlt hnc (by omega) hn hcl rfl hcs2 hvs h1c h1v).mono ?_
      rintro e w' ⟨G, ROW, z, hG, hG2, hRs, hRow, rfl, rfl⟩
      have hdl : (xss.flatten.drop (i * 2)).length = (n - i) * 2 := by rw [List.length_drop, hcl]; omega
      have hRL : ROW.toList.length = G * 2 := by simpa using hRs
      have r0 : ((w.alloc (.cells ROW 72)).drew).heap[w.heap.size]? = some (.cells ROW.toList.toArray 72 (0, 0)) := by rw [Array.toArray_toList]; exact heap_alloc_new w _
      have r1 := setCells_row [Value.string x.name, Value.string x.owner] (i * 2) _ _ r0
      have r2 := setCells_row (w := ((w.alloc (.cells ROW 72)).drew.setCells w.heap.size (i * 2) [Value.string x.name, Value.string x.owner]).drew) (xss.flatten.drop (i * 2)) ((i + 1) * 2) _ r1
      have hl1 : (xss.flatten.take (i * 2)).length = i * 2 := by rw [List.length_take, hcl]; omega
      have ht : ROW.toList.take (i * 2) = xss.flatten.take (i * 2) := by
        rw [hRow, Array.toList_append]
        show (xss.flatten.take (i * 2) ++ z.toList).take (i * 2) = _
        rw [List.take_append_of_le_length (by rw [hl1]; exact Nat.le_refl _), List.take_of_length_le (by rw [hl1]; exact Nat.le_refl _)]
      rw [setL_eq [Value.string x.name, Value.string x.owner] _ _ (by rw [hRL]; simp; omega), ht] at r2
      have hl0 : (xss.flatten.take (i * 2) ++ ([Value.string x.name, Value.string x.owner] ++ ROW.toList.drop (i * 2 + ([Value.string x.name, Value.string x.owner]).length))).length = G * 2 := by
        simp only [List.length_append, hl1, List.length_cons, List.length_nil, List.length_drop, hRL]; omega
      rw [setL_eq _ _ _ (by rw [hl0, hdl]; omega)] at r2
      have e1 : (xss.flatten.take (i * 2) ++ ([Value.string x.name, Value.string x.owner] ++ ROW.toList.drop (i * 2 + ([Value.string x.name, Value.string x.owner]).length))).take ((i + 1) * 2) = xss.flatten.take (i * 2) ++ [Value.string x.name, Value.string x.owner] := by
        rw [← List.append_assoc, List.take_append_of_le_length (by simp only [List.length_append, hl1, List.length_cons, List.length_nil]; omega), List.take_of_length_le (by simp only [List.length_append, hl1, List.length_cons, List.length_nil]; omega)]
      rw [e1, List.append_assoc] at r2
      refine ⟨_, rfl, ins_own r2 hB hn2 hxl hi hG hG2 ?_ hel' hxs, ?_⟩
      · simp only [List.length_append, hl1, List.length_cons, List.length_nil, List.length_drop, hRL, hcl]; omega
      · have hk : Keeps (· < w.heap.size) w ((((w.alloc (.cells ROW 72)).drew.setCells w.heap.size (i * 2) [Value.string x.name, Value.string x.owner]).drew).setCells w.heap.size ((i + 1) * 2) (xss.flatten.drop (i * 2))) :=
          (((Keeps.refl.alloc _).drew.trans ((keeps_setCells _ _ _).mono fun j hj e => by have h1 : j < w.heap.size := hj; have h2 : j = w.heap.size := e; omega)).drew).trans ((keeps_setCells _ _ _).mono fun j hj e => by have h1 : j < w.heap.size := hj; have h2 : j = w.heap.size := e; omega)
        exact ⟨hk.os, hk.tape, hk.output, hk.size, fun k h1 h2 => hk.block k h1 h1⟩
end
end

section
/-! Merged: ObrK, ObrL. -/

section
/-! Layer 7, the program, by contract: insert, AddSchema. -/
set_option linter.unusedVariables false
open Go.RowKit Go.Sort Go.Shelf Go.Lib

theorem ltT_asym {a b : ByteArray} (h : ltT a b = true) : ltT b a = false := by
  cases h2 : ltT b a with
  | false => rfl
  | true => have := ltT_trans h h2; rw [ltT_irr] at this; cases this
theorem insBy_at {x : Sch} : ∀ {l : List Sch}, (∀ y ∈ l, y.name ≠ x.name) → insAt l (posS x l) x = insBy ltS x l
  | [], _ => rfl
  | y :: r, h => by
    have ih := insBy_at (x := x) (l := r) fun z hz => h z (List.mem_cons_of_mem _ hz)
    unfold posS insAt at ih ⊢
    rw [List.takeWhile_cons]
    show _ = (if ltS x y then x :: y :: r else y :: insBy ltS x r)
    by_cases hy : ltS y x = true
    · rw [if_pos hy, if_neg (by rw [show ltS x y = false from ltT_asym hy]; simp), List.length_cons, List.take_succ_cons, List.drop_succ_cons, List.cons_append, ih]
    · rw [if_neg hy]
      have h1 : ltS x y = true := by
        rcases ltT_or (a := x.name) (b := y.name) with h2 | h2 | h2
        · exact h2
        · exact absurd h2.symm (h y (List.mem_cons_self ..))
        · exact absurd h2 hy
      rw [if_pos h1]
      simp
def InsPost2 (w : World) (B : Nat) (v : Value) (l : List Sch) (e : Ending) (w' : World) : Prop := ∃ v', e = .returned v' ∧ OwnX schQ w' B 72 2 v' l ∧ Keeps (fun k => k < w.heap.size ∧ v.ownBlock ≠ some k) w w'

set_option maxHeartbeats 4000000 in
set_option maxRecDepth 100000 in
theorem prog_insert_sch (B : Nat) (v : Value) (l : List Sch) (x : Sch) (w : World) (h : OwnX schQ w B 72 2 v l) (hB : B ≤ w.heap.size) (hn : l.length ≤ 3000) (hp : l.Pairwise (fun a b => ltS a b = true)) (hne : ∀ y ∈ l, y.name ≠ x.name) :
    Calls Try.prog 58 #[v, .agg #[.string x.name, .string x.owner], .func (.func 59) #[] #[]] w (InsPost2 w B v (insBy ltS x l)) := by
  obtain ⟨a, c, rfl, hc1, hc2⟩ := h.form
  have hg := Gr.alloc w (.cells #[.string x.name, .string x.owner] 72)
  have hrow := heap_alloc_new w (.cells #[.string x.name, .string x.owner] 72)
  have hsz : (w.alloc (.cells #[.string x.name, .string x.owner] 72)).heap.size = w.heap.size + 1 := by simp
  have HBS := Lib.hid (prog_bsf_sch w.heap.size a l.length c l x _ ((h.lst sch_stays).keep (S' := (· < w.heap.size)) (fun k hk => hk.lt) (Keeps.of_below hg.below fun k hk => hk.lt) fun _ _ _ h => h) hg.below.size hn hp)
  have HX := Lib.hid (h.below sch_stays hg.below)
  have HBK := Lib.hid (fun g (hg : (Value.slice a l.length c).ownBlock = some g) => (h.block hg).lt)
  have HROW := Lib.hid hrow; have HG := Lib.hid hg; have HAT := Lib.hid (insBy_at hne); have HPL := Lib.hid (posS_le x l)
  have x0 := box_at hrow 0 rfl
  have x1 := box_at hrow 1 rfl
  have HSZ := Lib.hid hsz
  obtain ⟨ln, hln⟩ : ∃ ln, l.length = ln := ⟨_, rfl⟩
  rw [hln] at hc1 HBS HX HBK hn ⊢
  have HLN := Lib.hid hln
  clear h hg hrow hp hne hsz hln
  go_enter Try.func58, Try.ntmps58
  go_wp2_with fail
  clear x0 x1
  generalize hw0 : World.alloc w _ = w0 at *
  clear hw0
  refine HBS.out.mono ?_
  rintro e w1 ⟨f, rfl, hg1⟩
  have h01 := hg1.below
  have hr1 := (h01.block w.heap.size (by rw [HSZ.out]; omega)).trans HROW.out
  have y0 := box_at hr1 0 rfl
  have y1 := box_at hr1 1 rfl
  have hal := (Gr.alloc w1 (.cells #[.string x.name, .string x.owner] 72)).below
  have hs01 := h01.size
  have hsz2 := HSZ.out
  have HI := Lib.hid (prog_ins_sch B (posS x l) w1.heap.size 1 (.slice a ln c) l x 72 (w1.alloc (.cells #[.string x.name, .string x.owner] 72)) ((HX.out.below sch_stays h01).below sch_stays hal)
    (by simp; omega) HPL.out (by rw [HLN.out]; exact hn) (heap_alloc_new w1 _) (fun e => by have := HBK.out _ e; omega))
  have HK := Lib.hid ((Keeps.of_below (HG.out.below.trans (h01.mono HG.out.below.size)) (S := (· < w.heap.size)) fun _ h => h).trans (Keeps.of_below hal (S := (· < w.heap.size)) fun k (hk : k < w.heap.size) => by omega))
  have HW := Lib.hid (show w.heap.size ≤ (w1.alloc (.cells #[.string x.name, .string x.owner] 72)).heap.size by simp; omega)
  rw [HAT.out] at HI
  clear hr1 hal h01 hg1
  generalize posS x l = p at *
  go_wp2_with (go_at_call 101; refine HI.out.mono ?_; rintro e w2 ⟨v2, rfl, hv2, hgr⟩)
  go_ret
  exact ⟨_, rfl, hv2, (HK.out.mono fun k hk => hk.1).trans (Keeps.of_grown (S := fun k => k < w.heap.size ∧ (Value.slice a ln c).ownBlock ≠ some k) hgr fun k hk hS => hS.2 hk)⟩

/-- What the schema's adding makes of objects that are right. -/
def addSchF (o : Objs) (n w : ByteArray) : Objs × Int :=
  if nameB n = false ∨ nameB w = false then (noO, 1) else if 0 ≤ schI o.schemas n then (noO, 60) else if 8 ≤ o.schemas.length then (noO, 2) else (⟨insBy ltS ⟨n, w⟩ o.schemas, o.tables⟩, 0)
set_option maxRecDepth 100000 in
set_option maxHeartbeats 8000000 in
theorem prog_addsch1_any (b B1 q1 q2 : Nat) (o : Objs) (vs vt : Value) (n ow : ByteArray) (W : World) (hbox : W.heap[b]? = some (.cells #[vs, vt] 26 (0, 0)))
    (hx : objY W B1 vs vt o) (hB : B1 ≤ W.heap.size) (hb : b < B1) (hq1 : W.cell? ⟨q1, 0, none⟩ = some (.string n)) (hq2 : W.cell? ⟨q2, 0, none⟩ = some (.string ow)) (hr : rightB o = true) :
    Calls Try.prog 56 #[.pointer (some ⟨b, 0, none⟩), .pointer (some ⟨q1, 0, none⟩), .pointer (some ⟨q2, 0, none⟩)] W (ChPost b B1 W (addSchF o n ow)) := by
  have HNM := Lib.hid prog_name_any
  by_cases hn1 : nameB n = false
  · have HE := Lib.hid (show addSchF o n ow = (noO, 1) by unfold addSchF; rw [if_pos (.inl hn1)])
    clear hbox hx
    go_enter Try.func56, Try.ntmps56
    go_wp2_with (go_at_call 9; refine (HNM.out n _).mono ?_; rintro e w1 ⟨rfl, rfl⟩; rw [hn1])
    go_ret
    rw [HE.out]
    exact ⟨rfl, Keeps.refl, fun h => by simp at h⟩
  have hn1 : nameB n = true := by simpa using hn1
  by_cases hn2 : nameB ow = false
  · have HE := Lib.hid (show addSchF o n ow = (noO, 1) by unfold addSchF; rw [if_pos (.inr hn2)])
    clear hbox hx
    go_enter Try.func56, Try.ntmps56
    go_wp2_with fail
    refine (HNM.out n _).mono ?_
    rintro e w1 ⟨rfl, rfl⟩
    rw [hn1]
    go_wp2_with fail
    refine (HNM.out ow _).mono ?_
    rintro e w1 ⟨rfl, rfl⟩
    rw [hn2]
    go_wp2_with fail
    go_ret
    rw [HE.out]
    exact ⟨rfl, Keeps.refl, fun h => by simp at h⟩
  have hn2 : nameB ow = true := by simpa using hn2
  have hR := right_iff.1 hr
  have hX := hx.objX
  obtain ⟨va, vcap, rfl, _, _⟩ := hX.1.form
  obtain ⟨xa, xcap, rfl, _, _⟩ := hX.2.form
  have hob : objP W (· < W.heap.size) _ o := obj_keep hX.obj (fun k hk => hk.lt) Keeps.refl
  obtain ⟨n3, hn3⟩ : ∃ m, o.schemas.length = m := ⟨_, rfl⟩
  obtain ⟨n4, hn4⟩ : ∃ m, o.tables.length = m := ⟨_, rfl⟩
  rw [hn3, hn4] at hbox hob
  obtain ⟨_, _, hv, hss, hts⟩ := id hob
  simp only [List.cons.injEq, and_true] at hv
  obtain ⟨rfl, rfl⟩ := hv
  have hbl : b < W.heap.size := Nat.lt_of_lt_of_le hb hB
  have hdw : Below W.heap.size W W.drew := ⟨rfl, rfl, rfl, Nat.le_refl _, fun _ _ => rfl⟩
  have HP := Lib.hid (prog_schplace_any W.heap.size va n3 vcap o.schemas n W.drew (schs_keep hss (fun _ h => h) (Keeps.of_below hdw fun _ h => h)) (Nat.le_refl _))
  have c0 := box_at hbox 0 rfl
  have HBOX := Lib.hid hbox; have HQ1 := Lib.hid hq1; have HQ2 := Lib.hid hq2; have HD := Lib.hid hdw
  have hl1 := World.block_lt_of_cell? W _ hq1
  have hl2 := World.block_lt_of_cell? W _ hq2
  have HN3 := Lib.hid hn3; have HN4 := Lib.hid hn4
  have hs8 : n3 ≤ 8 := by have := hR.s8; omega
  by_cases hi : 0 ≤ schI o.schemas n
  · have HE := Lib.hid (show addSchF o n ow = (noO, 60) by unfold addSchF; rw [if_neg (by rw [hn1, hn2]; simp), if_pos hi])
    have hm : (schI o.schemas n != -1) = true := by simp; omega
    have hm2 : ¬ schI o.schemas n = -1 := by omega
    clear hbox hx hX hob hss hts hdw hn3 hn4 hR
    generalize schI o.schemas n = q9 at *
    go_enter Try.func56, Try.ntmps56
    go_wp2_with fail
    refine (HNM.out n _).mono ?_
    rintro e w1 ⟨rfl, rfl⟩
    rw [hn1]
    go_wp2_with fail
    refine (HNM.out ow _).mono ?_
    rintro e w1 ⟨rfl, rfl⟩
    rw [hn2]
    go_wp2_with fail
    go_region_law (first
      | (go_simp
         refine HP.out.mono ?_
         rintro e w1 ⟨rfl, g1⟩
         have hb1 := HD.out.trans g1.below
         have HB1 := Lib.hid (below_drawn hb1 1)
         have d0 := box_at ((hb1.block b hbl).trans HBOX.out) 0 rfl
         have dq1 := (hb1.cell (p := ⟨q1, 0, none⟩) hl1).trans HQ1.out
         have dq2 := (hb1.cell (p := ⟨q2, 0, none⟩) hl2).trans HQ2.out
         have HB0 := Lib.hid hb1
         clear g1 hb1))
    all_goals
      go_wp2_with fail
      go_ret
      rw [HE.out]
      exact ⟨rfl, Keeps.of_below HB0.out fun k hk => by omega, fun h => by simp at h⟩
  · have hi2 : schI o.schemas n < 0 := by omega
    have hm1 := schI_none hi2
    rw [hm1] at HP
    by_cases h8 : n3 = 8
    · have HE := Lib.hid (show addSchF o n ow = (noO, 2) by unfold addSchF; rw [if_neg (by rw [hn1, hn2]; simp), if_neg hi, if_pos (by omega)])
      subst h8
      clear hbox hx hX hob hss hts hdw hn3 hn4 hR hm1 hi hi2
      go_enter Try.func56, Try.ntmps56
      go_wp2_with fail
      refine (HNM.out n _).mono ?_
      rintro e w1 ⟨rfl, rfl⟩
      rw [hn1]
      go_wp2_with fail
      refine (HNM.out ow _).mono ?_
      rintro e w1 ⟨rfl, rfl⟩
      rw [hn2]
      go_wp2_with fail
      go_region_law (first
        | (go_simp
           refine HP.out.mono ?_
           rintro e w1 ⟨rfl, g1⟩
           have hb1 := HD.out.trans g1.below
           have HB1 := Lib.hid (below_drawn hb1 1)
           have d0 := box_at ((hb1.block b hbl).trans HBOX.out) 0 rfl
           have dq1 := (hb1.cell (p := ⟨q1, 0, none⟩) hl1).trans HQ1.out
           have dq2 := (hb1.cell (p := ⟨q2, 0, none⟩) hl2).trans HQ2.out
           have HB0 := Lib.hid hb1
           clear g1 hb1))
      all_goals
        go_wp2_with fail
        go_ret
        rw [HE.out]
        exact ⟨rfl, Keeps.of_below HB0.out fun k hk => by omega, fun h => by simp at h⟩
    · have HE := Lib.hid (show addSchF o n ow = (⟨insBy ltS ⟨n, ow⟩ o.schemas, o.tables⟩, 0) by unfold addSchF; rw [if_neg (by rw [hn1, hn2]; simp), if_neg hi, if_neg (by omega)])
      have h8i : ¬ ((n3 : Int) = 8) := by omega
      have hne : ∀ y ∈ o.schemas, y.name ≠ n := fun y hy e => hi (schI_iff.2 ⟨y, hy, e⟩)
      obtain ⟨m, hBm, hsx, hsm, htx⟩ := hx
      have HBK := Lib.hid (fun g hg => (hsx.block (g := g) hg).1)
      have HSM := Lib.hid hsm
      have HTX := Lib.hid htx
      have hIN := fun W' (h : Below W.heap.size W W') => prog_insert_sch B1 (.slice va o.schemas.length vcap) o.schemas ⟨n, ow⟩ W' (hsx.below sch_stays h) (Nat.le_trans hB h.size) (by omega) hR.srise hne
      rw [hn3] at hIN HBK HSM
      have HIN := Lib.hid hIN
      clear hbox hX hob hss hts hdw hn3 hn4 hR hm1 hi hi2 hne hsx hsm htx hIN
      go_enter Try.func56, Try.ntmps56
      go_wp2_with fail
      refine (HNM.out n _).mono ?_
      rintro e w1 ⟨rfl, rfl⟩
      rw [hn1]
      go_wp2_with fail
      refine (HNM.out ow _).mono ?_
      rintro e w1 ⟨rfl, rfl⟩
      rw [hn2]
      go_wp2_with fail
      go_region_law (first
        | (go_simp
           refine HP.out.mono ?_
           rintro e w1 ⟨rfl, g1⟩
           have hb1 := HD.out.trans g1.below
           have HB1 := Lib.hid (below_drawn hb1 1)
           have d0 := box_at ((hb1.block b hbl).trans HBOX.out) 0 rfl
           have dq1 := (hb1.cell (p := ⟨q1, 0, none⟩) hl1).trans HQ1.out
           have dq2 := (hb1.cell (p := ⟨q2, 0, none⟩) hl2).trans HQ2.out
           have HB0 := Lib.hid hb1
           clear g1 hb1))
      all_goals
        go_wp2_with fail
        go_region_law (first
          | (go_simp
             refine (HIN.out _ HB1.out).mono ?_
             rintro e w3 ⟨nv, rfl, hv, hk⟩
             obtain ⟨na, nc, rfl, _, _⟩ := hv.form
             obtain ⟨n5, hn5⟩ : ∃ m, (insBy ltS ⟨n, ow⟩ o.schemas).length = m := ⟨_, rfl⟩
             rw [hn5] at hv ⊢
             have hbn : (Value.slice va n3 vcap).ownBlock ≠ some b := fun e => by have := HBK.out _ e; omega
             have hs1 := HB1.out.size
             have hr3 := hk.row ((HB1.out.block b hbl).trans HBOX.out) ⟨Nat.lt_of_lt_of_le hbl hs1, hbn⟩
             have g0 := box_at hr3 0 rfl
             have z0 := frozen_of_row w3 b 0 _ _ hr3
             have HV := Lib.hid hv; have HK := Lib.hid hk; have HR3 := Lib.hid hr3
             clear hv hk hr3 hn5 hbn))
        all_goals
          go_wp2_with fail
          go_ret
          rw [HE.out]
          have hk4 : Keeps (fun j => j ≠ b) w3 (w3.setCell ⟨b, 0, none⟩ (.slice na n5 nc)) := Keeps.refl.setCell (by simp) _
          have hsf : ∀ j, Sf B1 w3 j → Sf B1 (w3.setCell ⟨b, 0, none⟩ (.slice na n5 nc)) j ∧ j ≠ b := fun j hj => ⟨hj.keep hk4 (by have := hj.1; omega), by have := hj.1; omega⟩
          have ht1 := HTX.out.below tab_stays (by exact HB1.out.mono (Nat.le_refl _))
          have ht3 := ht1.keep tab_stays HK.out fun j hj => ⟨hj.lt, fun e => by have := HSM.out _ e; have := hj.1; omega⟩
          have htl := (ht3.mono tab_stays hBm).lst tab_stays
          rw [HN4.out] at htl
          exact ⟨rfl, (Keeps.of_below HB1.out (S := fun j => j < B1 ∧ j ≠ b) fun j hj => by omega).trans ((HK.out.mono fun j (hj : j < B1 ∧ j ≠ b) => ⟨by have := HB1.out.size; omega, fun e => by have := HBK.out _ e; omega⟩).trans (hk4.mono fun j hj => hj.2)), fun _ => ⟨_, _, heap_setCell_same _ _ 0 _ _ _ HR3.out, _, _, rfl,
            schs_keep (HV.out.lst sch_stays) (fun j hj => (hsf j hj).1) (hk4.mono fun j hj => (hsf j hj).2),
            tabs_keep htl (fun j hj => (hsf j hj).1) (hk4.mono fun j hj => (hsf j hj).2)⟩⟩
end

section
/-! Layer 7, the program, by contract: AddSchema. -/
set_option linter.unusedVariables false
open Go.RowKit Go.Sort Go.Shelf Go.Lib

theorem alloc4 (w : World) (c0 c1 c2 c3 : Obj) : ((((w.alloc c0).alloc c1).alloc c2).alloc c3).heap[w.heap.size + 1]? = some c1 ∧ ((((w.alloc c0).alloc c1).alloc c2).alloc c3).heap[w.heap.size + 2]? = some c2 ∧ ((((w.alloc c0).alloc c1).alloc c2).alloc c3).heap[w.heap.size + 3]? = some c3 := by
  have e1 := size_box w c0
  have e2 := size_box (w.alloc c0) c1
  have e3 := size_box ((w.alloc c0).alloc c1) c2
  have h1 := heap_alloc_new (w.alloc c0) c1
  have h2 := heap_alloc_new ((w.alloc c0).alloc c1) c2
  have h3 := heap_alloc_new (((w.alloc c0).alloc c1).alloc c2) c3
  rw [e1] at e2 h1
  rw [e2] at e3 h2
  rw [e3] at h3
  refine ⟨?_, ?_, h3⟩
  · rw [Below.heap_alloc _ _ _ (by omega), Below.heap_alloc _ _ _ (by omega)]; exact h1
  · rw [Below.heap_alloc _ _ _ (by omega)]; exact h2

set_option maxRecDepth 100000 in
set_option maxHeartbeats 8000000 in
theorem prog_addschema_any (B : Nat) (o : Objs) (vs vt : Value) (n ow : ByteArray) (w : World) (ho : objP w (· < B) [vs, vt] o) (hB : B ≤ w.heap.size) (hsm : smallO 3000 o) :
    Calls Try.prog 23 #[.agg #[vs, vt], .string n, .string ow] w (OutPost w (addSchemaF o n ow)) := by
  have HI : Hid ((Try.prog.info? 26).map (·.size) = some 2) := Lib.hid (by kernel_rfl)
  obtain ⟨_, _, hv, hss, hts⟩ := id ho
  simp only [List.cons.injEq, and_true] at hv
  obtain ⟨rfl, rfl⟩ := hv
  obtain ⟨sa, sc, rfl, _, _⟩ := hss.form
  obtain ⟨ta, tc, rfl, _, _⟩ := hts.form
  obtain ⟨sn, hsn⟩ : ∃ sn, o.schemas.length = sn := ⟨_, rfl⟩
  obtain ⟨tn, htn⟩ : ∃ tn, o.tables.length = tn := ⟨_, rfl⟩
  rw [hsn, htn] at ho ⊢
  clear hss hts hsn htn
  obtain ⟨w0, hw0⟩ : ∃ w0, w0 = (((w.alloc (.cells #[.slice sa sn sc, .slice ta tn tc] 26)).alloc (.cells #[.string n] 9)).alloc (.cells #[.string ow] 9)).alloc (.cells #[.slice none 0 0, .slice none 0 0] 26) := ⟨_, rfl⟩
  have hsz : w0.heap.size = w.heap.size + 4 := by rw [hw0]; simp
  have hbw : Below w.heap.size w w0 := by rw [hw0]; exact ((((Below.refl _ w).alloc (Nat.le_refl _) _).alloc (by simp) _).alloc (by simp; omega) _).alloc (by simp; omega) _
  have hob : objP w0 (· < B) [.slice sa sn sc, .slice ta tn tc] o := obj_keep ho (fun _ h => h) (Keeps.of_below hbw fun k hk => Nat.lt_of_lt_of_le hk hB)
  obtain ⟨r1, r2, r3⟩ := (by rw [hw0]; exact alloc4 w _ _ _ _ : w0.heap[w.heap.size + 1]? = some (.cells #[.string n] 9 (0, 0)) ∧ w0.heap[w.heap.size + 2]? = some (.cells #[.string ow] 9 (0, 0)) ∧ w0.heap[w.heap.size + 3]? = some (.cells #[.slice none 0 0, .slice none 0 0] 26 (0, 0)))
  have c1 := box_at r1 0 rfl
  have c2 := box_at r2 0 rfl
  have HCH := Lib.hid (prog_changed_any B o _ _ 56 #[.pointer (some ⟨w.heap.size + 1, 0, none⟩), .pointer (some ⟨w.heap.size + 2, 0, none⟩)] (addSchF o n ow) (addSchemaF o n ow) w0 hob (by omega) hsm (enters_of Try.func56 (by kernel_rfl) rfl)
    (fun W vs' vt' B1 h1 h2 hbx hx hbW hr => prog_addsch1_any w0.heap.size B1 (w.heap.size + 1) (w.heap.size + 2) o vs' vt' n ow W hbx hx h2 (by omega)
      ((hbW.cell (p := ⟨w.heap.size + 1, 0, none⟩) (by show w.heap.size + 1 < _; omega)).trans c1) ((hbW.cell (p := ⟨w.heap.size + 2, 0, none⟩) (by show w.heap.size + 2 < _; omega)).trans c2) hr)
    (fun h => by
      unfold addSchF at h ⊢
      split
      · rfl
      · split
        · rfl
        · split
          · rfl
          · rename_i h1 h2 h3
            rw [if_neg h1, if_neg h2, if_neg h3] at h
            exact absurd rfl h)
    (fun h => by unfold addSchemaF; rw [if_pos h])
    (fun h => by unfold addSchemaF addSchF; rw [if_neg (by rw [h]; simp)]))
  have HR4 := Lib.hid r3; have HSZ := Lib.hid hsz; have HBW := Lib.hid hbw
  clear c1 c2 r1 r2 r3 hob hsz hbw ho
  subst hw0
  go_enter Try.func23, Try.ntmps23
  go_wp2_with (first
    | (go_at_call 50
       refine HCH.out.mono ?_
       rintro e w3 ⟨vs3, vt3, rfl, hob3, hb3⟩
       have hob4 := hob3
       obtain ⟨_, _, hv3, hss3, hts3⟩ := hob4
       simp only [List.cons.injEq, and_true] at hv3
       obtain ⟨rfl, rfl⟩ := hv3
       obtain ⟨a3, cap3, rfl, _, _⟩ := hss3.form
       obtain ⟨a4, cap4, rfl, _, _⟩ := hts3.form
       obtain ⟨n3, hn3⟩ : ∃ m, (addSchemaF o n ow).1.schemas.length = m := ⟨_, rfl⟩
       obtain ⟨n4, hn4⟩ : ∃ m, (addSchemaF o n ow).1.tables.length = m := ⟨_, rfl⟩
       rw [hn3, hn4] at hob3 ⊢
       have HG3 := Lib.hid ((hb3.block (w.heap.size + 3) (by rw [HSZ.out]; omega)).trans HR4.out)
       have HO3 : Hid ((#[.slice a3 n3 cap3, .slice a4 n4 cap4] : Array Value).all (·.oneCell') = true) := Lib.hid (by kernel_rfl)
       have HROW3 := Lib.hid (setRow_heap _ _ _ #[.slice a3 n3 cap3, .slice a4 n4 cap4] _ _ HG3.out)
       have HB3 := Lib.hid (hb3.mono (Nat.le_of_eq HSZ.out.symm)); have HOB3 := Lib.hid (obj_keep hob3 (fun k hk => hk.mono (Nat.le_of_eq HSZ.out.symm)) Keeps.refl)
       clear hb3 hob3 hss3 hts3 hn3 hn4)
    | (refine wpList_store_box rfl 26 _ _ rfl (w.heap.size + 3) 26 _ #[.slice a3 n3 cap3, .slice a4 n4 cap4] rfl rfl HG3.out HI.out rfl HO3.out ?_))
  refine bodyPost_ret (results_box_tmp rfl _ _ (w.heap.size + 3) _ _ (0, 0) _ rfl HROW3.out Try.underlying26 rfl HI.out) rfl ?_
  exact close2 (r := addSchemaF o n ow) (HBW.out.trans (HB3.out.mono (by omega))) (by omega) (obj_keep HOB3.out (fun k hk => ⟨hk.mono (by omega), by have := hk.1; omega⟩) Keeps.refl)
end
end
end Go.Proofs.Yteaeccpmociphaa
