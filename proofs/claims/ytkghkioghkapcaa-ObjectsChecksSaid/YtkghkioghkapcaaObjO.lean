/-
  Layer 7: rows of one's own whose elements are things of the document; what is soft (may be written).
-/
import Derived.Test.YtkghkioghkapcaaObjN
import Derived.Maps.AppendAt
import Derived.Laws.OwnMore
import Derived.Deep.AppendLies
import Derived.Deep.Onto
namespace Go.Proofs.Ytkghkioghkapcaa
open Go.RowKit

/-- A block of cells of which none is frozen. -/
def Soft (w : World) (k : Nat) : Prop := ∃ cs t, w.heap[k]? = some (.cells cs t (0, 0))
/-- Soft blocks behind B. -/
def Sf (B : Nat) (w : World) (k : Nat) : Prop := B ≤ k ∧ Soft w k
theorem Soft.lt {w : World} {k : Nat} (h : Soft w k) : k < w.heap.size := by
  obtain ⟨cs, t, h⟩ := h
  exact (Array.getElem?_eq_some_iff.1 h).1
theorem Soft.keep {w w' : World} {k : Nat} {S : Nat → Prop} (h : Soft w k) (hk : Keeps S w w') (hs : S k) : Soft w' k := by
  have hl := h.lt
  obtain ⟨cs, t, h⟩ := h
  exact ⟨cs, t, (hk.block k hl hs).trans h⟩
theorem Soft.below {w w' : World} {k : Nat} (h : Soft w k) (hb : Below w.heap.size w w') : Soft w' k := by
  have hl := h.lt
  obtain ⟨cs, t, h⟩ := h
  exact ⟨cs, t, (hb.block k hl).trans h⟩
theorem Soft.setCell {w : World} {k : Nat} (h : Soft w k) (p : Addr) (u : Value) (hp : p.spot = none) : Soft (w.setCell p u) k := by
  obtain ⟨cs, t, h⟩ := h
  obtain ⟨b, o, s⟩ := p
  simp only at hp
  subst hp
  by_cases e : k = b
  · subst e
    exact ⟨_, t, heap_setCell_same w k o cs t u h⟩
  · exact ⟨cs, t, (Below.heap_setCell _ _ _ _ (fun h => e h)).trans h⟩
theorem Soft.frozen {w : World} {k : Nat} (h : Soft w k) (j : Nat) : w.frozen? ⟨k, j, none⟩ = false := by
  obtain ⟨cs, t, h⟩ := h
  exact frozen_of_row w k j cs t h
theorem Sf.keep {B : Nat} {w w' : World} {k : Nat} {S : Nat → Prop} (h : Sf B w k) (hk : Keeps S w w') (hs : S k) : Sf B w' k := ⟨h.1, h.2.keep hk hs⟩
theorem Sf.below {B : Nat} {w w' : World} {k : Nat} (h : Sf B w k) (hb : Below w.heap.size w w') : Sf B w' k := ⟨h.1, h.2.below hb⟩
theorem Sf.lt {B : Nat} {w : World} {k : Nat} (h : Sf B w k) : k < w.heap.size := h.2.lt
theorem Sf.mono {B B' : Nat} {w : World} {k : Nat} (h : Sf B' w k) (hb : B ≤ B') : Sf B w k := ⟨Nat.le_trans hb h.1, h.2⟩

/-- What elements are, where their own rows lie in blocks of which S holds. -/
abbrev Elem (α : Type) := World → (Nat → Prop) → List Value → α → Prop
/-- Elements stay what they are while their blocks stay; each has sz cells. -/
structure Stays {α : Type} (Q : Elem α) (sz : Nat) : Prop where
  keep : ∀ {w w' : World} {S S' : Nat → Prop} {x : List Value} {y : α}, Q w S x y → (∀ k, S k → S' k) → Keeps S w w' → Q w' S' x y
  size : ∀ {w : World} {S : Nat → Prop} {x : List Value} {y : α}, Q w S x y → x.length = sz
  one : ∀ {w : World} {S : Nat → Prop} {x : List Value} {y : α}, Q w S x y → ∀ u ∈ x, u.oneCell' = true
def strQ : Elem ByteArray := fun _ _ => strP
def colQ : Elem Col := fun _ _ => colP
def schQ : Elem Sch := fun _ _ => schP
theorem str_stays : Stays strQ 1 := ⟨fun h _ _ => h, fun h => by rw [show _ = _ from h]; rfl, fun h u hu => by rw [show _ = _ from h] at hu; simp at hu; subst hu; rfl⟩
theorem col_stays : Stays colQ 3 := ⟨fun h _ _ => h, fun h => by rw [show _ = _ from h]; rfl, fun h u hu => by rw [show _ = _ from h] at hu; simp at hu; rcases hu with rfl | rfl | rfl <;> rfl⟩
theorem sch_stays : Stays schQ 2 := ⟨fun h _ _ => h, fun h => by rw [show _ = _ from h]; rfl, fun h u hu => by rw [show _ = _ from h] at hu; simp at hu; rcases hu with rfl | rfl <;> rfl⟩
theorem lst_slice {α : Type} {w : World} {S : Nat → Prop} {P : List Value → α → Prop} {sz : Nat} {v : Value} {l : List α} (h : Lst w S P sz v l) : v.oneCell' = true := by
  obtain ⟨a, cap, rfl, _⟩ := h.form
  rfl
theorem rul_stays : Stays rulP 8 := ⟨fun h hs hk => rul_keep h hs hk, fun ⟨v, h, _⟩ => by rw [h]; rfl, fun ⟨v, h, hl⟩ u hu => by rw [h] at hu; simp at hu; rcases hu with rfl | rfl | rfl | rfl | rfl | rfl | rfl | rfl <;> first | rfl | exact lst_slice hl⟩
theorem tab_stays : Stays tabP 5 := ⟨fun h hs hk => tab_keep h hs hk, fun ⟨_, _, h, _⟩ => by rw [h]; rfl, fun ⟨vc, vr, h, hc, hr⟩ u hu => by rw [h] at hu; simp at hu; rcases hu with rfl | rfl | rfl | rfl | rfl <;> first | rfl | exact lst_slice hc | exact lst_slice hr⟩

/-- The call's own row v, behind B, reads as l; what its elements lead to lies in soft blocks behind B, apart from the row. -/
def OwnX {α : Type} (Q : Elem α) (w : World) (B : Nat) (e : TypeId) (sz : Nat) (v : Value) (l : List α) : Prop :=
  ∃ xss : List (List Value), w.ownsRow B e sz v l.length xss.flatten ∧ xss.length = l.length ∧ ∀ (i : Nat) x y, xss[i]? = some x → l[i]? = some y → Q w (fun k => Sf B w k ∧ v.ownBlock ≠ some k) x y
section
variable {α : Type} {Q : Elem α} {w w' : World} {B : Nat} {e : TypeId} {sz : Nat} {v : Value} {l : List α}
theorem OwnX.nil (Q : Elem α) (w : World) (B : Nat) (e : TypeId) (sz : Nat) : OwnX Q w B e sz (.slice none 0 0) [] := ⟨[], World.ownsRow_nil _ _ _ _, rfl, fun i x y h => by simp at h⟩
theorem OwnX.form (h : OwnX Q w B e sz v l) : ∃ a cap, v = .slice a l.length cap ∧ l.length ≤ cap ∧ cap ≤ maxLen := by
  obtain ⟨xss, ⟨_, ⟨rfl, h0⟩ | ⟨g, cap, cur, rfl, _, _, h1, h2, _⟩⟩, _⟩ := h
  · exact ⟨none, 0, by rw [h0], by omega, by unfold maxLen; omega⟩
  · exact ⟨_, cap, rfl, h1, h2⟩
theorem OwnX.block (h : OwnX Q w B e sz v l) {g : Nat} (hg : v.ownBlock = some g) : Sf B w g := by
  obtain ⟨xss, ⟨_, ⟨rfl, h0⟩ | ⟨g', cap, cur, rfl, hb, hc, h1, h2, _⟩⟩, _⟩ := h
  · cases hg
  · cases hg
    exact ⟨hb, _, _, hc⟩
theorem OwnX.keep (h : OwnX Q w B e sz v l) (hQ : Stays Q sz) {S : Nat → Prop} (hk : Keeps S w w') (hs : ∀ k, Sf B w k → S k) : OwnX Q w' B e sz v l := by
  have hb := fun g hg => hs g (h.block (g := g) hg)
  obtain ⟨xss, h1, h2, h3⟩ := h
  refine ⟨xss, ?_, h2, fun i x y hx hy => hQ.keep (h3 i x y hx hy) (fun k hk' => ⟨hk'.1.keep hk (hs k hk'.1), hk'.2⟩) (hk.mono fun k hk' => hs k hk'.1)⟩
  rcases h1 with ⟨hl, h | ⟨g, cap, cur, rfl, h2, h3, h4⟩⟩
  · exact ⟨hl, .inl h⟩
  · exact ⟨hl, .inr ⟨g, cap, cur, rfl, h2, hk.row h3 (hb g rfl), h4⟩⟩
theorem OwnX.below (h : OwnX Q w B e sz v l) (hQ : Stays Q sz) (hb : Below w.heap.size w w') : OwnX Q w' B e sz v l :=
  h.keep hQ (Keeps.of_below hb (S := (· < w.heap.size)) fun _ h => h) fun _ h => h.lt
/-- Behind another base that lies ahead. -/
theorem OwnX.mono (h : OwnX Q w B e sz v l) (hQ : Stays Q sz) {B' : Nat} (hB : B' ≤ B) : OwnX Q w B' e sz v l := by
  obtain ⟨xss, h1, h2, h3⟩ := h
  exact ⟨xss, h1.mono hB, h2, fun i x y hx hy => hQ.keep (h3 i x y hx hy) (fun k hk => ⟨hk.1.mono hB, hk.2⟩) Keeps.refl⟩
/-- It reads as a list. -/
theorem OwnX.lst (h : OwnX Q w B e sz v l) (hQ : Stays Q sz) : Lst w (Sf B w) (Q w (Sf B w)) sz v l := by
  obtain ⟨a, cap, rfl, hc1, hc2⟩ := h.form
  have hb := fun g hg => h.block (g := g) hg
  obtain ⟨xss, h1, h2, h3⟩ := h
  have hP : ∀ (i : Nat) x y, xss[i]? = some x → l[i]? = some y → Q w (Sf B w) x y := fun i x y hx hy => hQ.keep (h3 i x y hx hy) (fun k hk => hk.1) Keeps.refl
  have hsz : ∀ x ∈ xss, x.length = sz := by
    intro x hx
    obtain ⟨i, hi, rfl⟩ := List.mem_iff_getElem.1 hx
    exact hQ.size (hP i _ l[i] (List.getElem?_eq_getElem hi) (List.getElem?_eq_getElem (by omega)))
  refine ⟨a, cap, xss, rfl, hc1, hc2, ?_, h2, hP⟩
  rcases h1 with ⟨hl, ⟨he, h0⟩ | ⟨g, cap', cur, he, hg1, hg2, hg3, hg4, hg5, hg6⟩⟩
  · exact .inl (List.eq_nil_of_length_eq_zero (by omega))
  · cases he
    refine .inr ⟨g, 0, rfl, hb g rfl, fun i x hx j u hu => ?_⟩
    obtain ⟨hil, rfl⟩ := List.getElem?_eq_some_iff.1 hx
    obtain ⟨hf1, hf2⟩ := flat_at hsz
    have h4 := hf2 i
    rw [List.getElem?_eq_getElem hil, Option.getD_some] at h4
    have hj : j < sz := by have := (List.getElem?_eq_some_iff.1 hu).1; rw [hsz _ (List.getElem_mem hil)] at this; exact this
    rw [← h4, List.getElem?_take, if_pos hj, List.getElem?_drop, ← hg6, List.getElem?_take] at hu
    split at hu
    · rw [cell_of_row _ _ _ _ _ _ hg2, Nat.zero_add]
      simpa using hu
    · cases hu
/-- One more. -/
theorem OwnX.push {w1 w3 : World} {v3 : Value} {o : Obj} {x : List Value} {y : α} {xss : List (List Value)} (hQ : Stays Q sz) (_hown : w1.ownsRow B e sz v l.length xss.flatten) (hlen : xss.length = l.length)
    (hel : ∀ (i : Nat) x y, xss[i]? = some x → l[i]? = some y → Q w1 (fun k => Sf B w1 k ∧ v.ownBlock ≠ some k) x y) (hx : Q w1 (fun k => Sf B w1 k ∧ v.ownBlock ≠ some k) x y)
    (hown3 : w3.ownsRow B e sz v3 (l.length + 1) (xss.flatten ++ x)) (hg : (w1.alloc o).grownBy w3 v.ownBlock) (hat : v3.ownBlock = v.ownBlock ∨ v3.ownBlock = some (w1.heap.size + 1)) : OwnX Q w3 B e sz v3 (l ++ [y]) := by
  have hk : Keeps (fun k => Sf B w1 k ∧ v.ownBlock ≠ some k) w1 w3 := (Keeps.refl.alloc o).trans (Keeps.of_grown hg fun k hk hs => hs.2 hk)
  have hS : ∀ k, (Sf B w1 k ∧ v.ownBlock ≠ some k) → Sf B w3 k ∧ v3.ownBlock ≠ some k := fun k hs => ⟨hs.1.keep hk hs, fun e => by
    rcases hat with h | h
    · exact hs.2 (h ▸ e)
    · rw [h] at e
      have := hs.1.lt
      injection e with e
      omega⟩
  refine ⟨xss ++ [x], by rw [List.length_append, List.length_singleton, List.flatten_append, List.flatten_singleton]; exact hown3, by simp [hlen], fun i a b ha hb => ?_⟩
  by_cases hi : i < l.length
  · rw [List.getElem?_append_left (by omega)] at ha
    rw [List.getElem?_append_left hi] at hb
    exact hQ.keep (hel i a b ha hb) hS hk
  · have hil := (List.getElem?_eq_some_iff.1 hb).1
    have : i = l.length := by simp at hil; omega
    subst this
    rw [List.getElem?_append_right (by omega)] at ha
    rw [List.getElem?_append_right (Nat.le_refl _)] at hb
    rw [hlen] at ha
    simp at ha hb
    subst ha hb
    exact hQ.keep hx hS hk
end

/-- Objects in memory of one's own: the tables' row may be written apart from what its tables lead to. -/
def objX (w : World) (B : Nat) (vs vt : Value) (o : Objs) : Prop := OwnX schQ w B 75 2 vs o.schemas ∧ OwnX tabP w B 35 5 vt o.tables
theorem objX.obj {w : World} {B : Nat} {vs vt : Value} {o : Objs} (h : objX w B vs vt o) : objP w (Sf B w) [vs, vt] o := ⟨vs, vt, rfl, h.1.lst sch_stays, h.2.lst tab_stays⟩

theorem results_box_tmp {P : Program} {fn : Func} {p u : Tmp} {ty : TypeId} (h : fn.results = #[.cell p ty, .tmp u]) (tmps : Array Value) (w : World) (g : Nat) (t : TypeId) (cs : Array Value) (fr : Nat × Nat) (d : TypeDesc)
    (hp : tmps.getD p undef = .pointer (some ⟨g, 0, none⟩)) (hg : w.heap[g]? = some (.cells cs t fr))
    (hu : P.underlying ty = some d) (hd : (match d with | .struct _ | .array _ _ => true | _ => false) = true) (hi : (P.info? ty).map (·.size) = some cs.size) :
    (results fn tmps).run P w = .ok (.tuple #[.agg cs, tmps.getD u undef]) w := by
  have hp' : tmps[p]?.getD undef = .pointer (some ⟨g, 0, none⟩) := by simpa using hp
  simp only [results, h]
  simp [Result.andThen, hp', asAddr, run_loadVar_row w g t ty cs fr d hg hu hd hi]

/-- 'append(nil, src...)': a row of one's own with the same elements. -/
theorem wpList_append_all {P : Program} {w : World} {ops : Array Oper} {rest : List Oper} {o : Oper} {a : Act} {Q : Exit → Act → World → Prop} (hgd : o.guard = none) (s x : Operand) (t : TypeId)
    (ho : o.op = .call { callee := .builtin .append, args := #[s, x], argTypes := #[t, t] })
    (e : TypeId) (i : TypeInfo) (z : Value) (sz bytes : Nat) (ht : P.underlying t = some (.slice e)) (hi : P.info? e = some i) (hz : i.zero = some z)
    (hsize : i.size = sz) (hby : i.bytes = bytes) (hzs : z.cells.size = sz) (hsz : 0 < sz) (hs : a.eval s = .slice none 0 0)
    {α : Type} {S : Nat → Prop} {R : Elem α} (hR : Stays R sz) (hRw : ∀ {w w' : World} {S S' : Nat → Prop} {x : List Value} {y : α}, R w S x y → R w' S' x y) {A : Option Addr} {m c : Nat} {l : List α} (hx : a.eval x = .slice A m c) (hL : Lst w S (R w S) sz (.slice A m c) l)
    (hbytes : (m + m / 4 + 192) * bytes ≤ 281474976710656)
    (h : ∀ v' w', OwnX R w' w.heap.size e sz v' l → Below w.heap.size w w' → wpList P ops Q rest (a.put o.dst v') w') : wpList P ops Q (o :: rest) a w := by
  obtain ⟨hlm, hmc, hcm⟩ := hL.len
  obtain ⟨xss, hn, hxl, hxs, hrd⟩ := hL.cells fun x y hy hp => hR.size hp
  obtain ⟨hf1, hf2⟩ := flat_at hxs
  have h1 : ∀ u ∈ xss.flatten, u.oneCell' = true := by
    intro u hu
    obtain ⟨x, hx', hux⟩ := List.mem_flatten.1 hu
    obtain ⟨k, hk, rfl⟩ := List.mem_iff_getElem.1 hx'
    have hkl : k < l.length := by omega
    exact hR.one (hxl k _ _ (List.getElem?_eq_getElem hk) (List.getElem?_eq_getElem hkl)) u hux
  cases A with
  | none =>
    have h0 : m = 0 := by
      rcases hrd with h | ⟨b, o, ha, _⟩
      · subst h; simpa using hn.symm
      · cases ha
    subst h0
    obtain rfl : l = [] := List.eq_nil_of_length_eq_zero hlm
    have hrun : (Builtin.append_ #[t, t] o.type #[.slice none 0 0, .slice none 0 c]).run P w = .ok (.slice none 0 0) w := by
      simp [Builtin.append_, run_underlying ht, sizeOf, typeInfo, hi, Builtin.lenOf, Builtin.firstCells]
    refine wpList_plain hgd fun K hK => ?_
    unfold Oper.wp
    simp [execOp, ho, resolve, invoke, builtin, hs, hx, hrun, Result.andThen]
    exact hK _ _ (h _ _ (OwnX.nil _ _ _ _ _) ⟨rfl, rfl, rfl, Nat.le_refl _, fun _ _ => rfl⟩)
  | some ad =>
    refine wpList_append_own_wide w hgd s x t ho w.heap.size e i z sz bytes ht hi hz hsize hby hzs hsz (.slice none 0 0) 0 [] hs ⟨by simp, .inl ⟨rfl, rfl⟩⟩ ad m c xss.flatten hx (by rw [hf1, hn]) ?_ h1 (by omega) (by simpa using hbytes) (Nat.le_refl _) ?_
    · intro j u hj
      by_cases hne : xss = []
      · subst hne; simp at hj
      · obtain ⟨ad', he, hat⟩ := hrd.flat hxs hne
        cases he
        exact hat j u hj
    · intro v' w' hown hg _
      rw [List.nil_append, Nat.zero_add] at hown
      refine h v' w' ⟨xss, by rw [hlm]; exact hown, by rw [hn, hlm], fun i x y hx hy => hRw (hxl i x y hx hy)⟩ ⟨hg.os, hg.tape, hg.output, hg.size, fun k hk => hg.block k hk (by simp [Value.ownBlock])⟩
section
open Go.Sort
theorem grow_at (w : World) (os : Array Obj) (i : Nat) (h : i < os.size) : (grow w os).heap[w.heap.size + i]? = some os[i] := by
  show (w.heap ++ os)[w.heap.size + i]? = _
  rw [Array.getElem?_append_right (by omega), Nat.add_sub_cancel_left, Array.getElem?_eq_getElem h]
/-- A row of known cells reads as a list. -/
theorem Lst.row {α : Type} {w : World} {S : Nat → Prop} {P : List Value → α → Prop} {sz b n : Nat} {t : TypeId} {fr : Nat × Nat} (xss : List (List Value)) {l : List α} (h : w.heap[b]? = some (.cells xss.flatten.toArray t fr)) (hs : ∀ x ∈ xss, x.length = sz) (hb : S b) (hl : l.length = n) (hx : xss.length = n) (hn : n ≤ maxLen)
    (hP : ∀ (i : Nat) x y, xss[i]? = some x → l[i]? = some y → P x y) : Lst w S P sz (.slice (some ⟨b, 0, none⟩) n n) l := by
  refine ⟨_, n, xss, by rw [hl], by omega, hn, .inr ⟨b, 0, rfl, hb, fun i x hi j v hv => ?_⟩, by omega, hP⟩
  rw [cell_of_row _ _ _ _ _ _ h]
  obtain ⟨h1, h2⟩ := flat_at hs
  have hx2 := h2 i
  rw [hi, Option.getD_some] at hx2
  have hj : j < sz := by have := (List.getElem?_eq_some_iff.1 hv).1; rw [hs x (List.mem_of_getElem? hi)] at this; exact this
  rw [← hx2, List.getElem?_take, if_pos hj, List.getElem?_drop] at hv
  rw [Nat.zero_add]
  simpa using hv
end
theorem strInfo : (Try.prog.info? 9).map (fun i => (i.zero, i.size, i.bytes)) = some (some (.string ⟨#[]⟩), 1, 16) := by kernel_rfl
section
open Go.RowKit
theorem below_put {B : Nat} {w w' : World} (h : Below B w w') {p : Addr} (hp : B ≤ p.block) (u : Value) : Below B w (w'.setCell p u) :=
  h.trans ⟨rfl, rfl, rfl, by simp [World.setCell], fun k hk => Below.heap_setCell _ _ _ _ (by omega)⟩
theorem OwnX.move {α : Type} {Q : Elem α} {w w' : World} {B : Nat} {e : TypeId} {sz : Nat} {v : Value} {l : List α} (h : OwnX Q w B e sz v l) (hQ : ∀ {w w' : World} {S S' : Nat → Prop} {x : List Value} {y : α}, Q w S x y → Q w' S' x y) {S : Nat → Prop} (hk : Keeps S w w') (hs : ∀ g, v.ownBlock = some g → S g) : OwnX Q w' B e sz v l := by
  obtain ⟨xss, h1, h2, h3⟩ := h
  refine ⟨xss, ?_, h2, fun i x y hx hy => hQ (h3 i x y hx hy)⟩
  rcases h1 with ⟨hl, h | ⟨g, cap, cur, rfl, h2, h3, h4⟩⟩
  · exact ⟨hl, .inl h⟩
  · exact ⟨hl, .inr ⟨g, cap, cur, rfl, h2, hk.row h3 (hs g rfl), h4⟩⟩
theorem OwnX.apart {α β : Type} {Q : Elem α} {R : Elem β} {w : World} {B B' : Nat} {e e' : TypeId} {sz sz' : Nat} {v v' : Value} {l : List α} {l' : List β} (h : OwnX Q w B e sz v l) (h' : OwnX R w B' e' sz' v' l') (he : e ≠ e') {g : Nat} (hg : v.ownBlock = some g) : v'.ownBlock ≠ some g := by
  obtain ⟨_, ⟨_, ⟨rfl, _⟩ | ⟨g1, _, _, rfl, _, h1, _⟩⟩, _⟩ := h
  · cases hg
  · cases hg
    obtain ⟨_, ⟨_, ⟨rfl, _⟩ | ⟨g2, _, _, rfl, _, h2, _⟩⟩, _⟩ := h'
    · intro h; cases h
    · intro h
      cases h
      rw [h1] at h2
      injection h2 with h2
      injection h2 with _ h2 _
      exact he h2
/-- A row of one's own is not a box of another type. -/
theorem OwnX.off {α : Type} {Q : Elem α} {w : World} {B : Nat} {e : TypeId} {sz : Nat} {v : Value} {l : List α} (h : OwnX Q w B e sz v l) {q : Nat} {cs : Array Value} {t : TypeId} {fr : Nat × Nat} (hq : w.heap[q]? = some (.cells cs t fr)) (he : e ≠ t) {g : Nat} (hg : v.ownBlock = some g) : g ≠ q := by
  obtain ⟨_, ⟨_, ⟨rfl, _⟩ | ⟨g1, _, _, rfl, _, h1, _⟩⟩, _⟩ := h
  · cases hg
  · cases hg
    intro h
    subst h
    rw [h1] at hq
    injection hq with h2
    injection h2 with _ h2 _
    exact he h2
end
end Go.Proofs.Ytkghkioghkapcaa
