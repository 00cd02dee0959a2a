/-
  Layer 7: what the ten calls have in common: how they begin, how they refuse, how a table is changed in its place.
-/
import Derived.Test.YtkghkioghkapcaaObjQ1
import Derived.Test.YtkghkioghkapcaaLaidB
namespace Go.Proofs.Ytkghkioghkapcaa
open Go.RowKit Go.Sort

/-- What a call has made: objects in memory of their own, and a number. -/
def OutPost (w : World) (r : Objs × Int) (e : Ending) (w' : World) : Prop := ∃ vs vt, e = .returned (.tuple #[.agg #[vs, vt], .int .i64 r.2]) ∧ objP w' (Sf w.heap.size w') [vs, vt] r.1 ∧ Below w.heap.size w w'
theorem no_obj (w : World) (S : Nat → Prop) : objP w S [.slice none 0 0, .slice none 0 0] noO :=
  ⟨_, _, rfl, ⟨none, 0, [], rfl, Nat.le_refl _, by unfold maxLen; omega, .inl rfl, rfl, fun i x y h => by simp at h⟩, ⟨none, 0, [], rfl, Nat.le_refl _, by unfold maxLen; omega, .inl rfl, rfl, fun i x y h => by simp at h⟩⟩

/-- A call has begun: its boxes are made; the result's is p1. -/
structure Opened (w : World) (B : Nat) (o : Objs) (vs vt : Value) (p1 : Nat) (w0 : World) : Prop where
  box : w0.heap[w.heap.size]? = some (.cells #[vs, vt] 26 (0, 0))
  res : w0.heap[p1]? = some (.cells #[.slice none 0 0, .slice none 0 0] 26 (0, 0))
  below : Below w.heap.size w w0
  size : w.heap.size < p1 ∧ p1 < w0.heap.size
  obj : objP w (· < B) [vs, vt] o
  base : B ≤ w.heap.size
theorem opened {w : World} {B : Nat} {o : Objs} {vs vt : Value} (ho : objP w (· < B) [vs, vt] o) (hB : B ≤ w.heap.size) :
    Opened w B o vs vt (w.heap.size + 1) ((w.alloc (.cells #[vs, vt] 26)).alloc (.cells #[.slice none 0 0, .slice none 0 0] 26)) := by
  have e1 : (w.alloc (.cells #[vs, vt] 26)).heap.size = w.heap.size + 1 := by simp
  have r1 := heap_alloc_new (w.alloc (.cells #[vs, vt] 26)) (.cells #[.slice none 0 0, .slice none 0 0] 26)
  rw [e1] at r1
  exact ⟨(Below.heap_alloc _ _ _ (by rw [e1]; omega)).trans (heap_alloc_new w _), r1, ((Below.refl _ w).alloc (Nat.le_refl _) _).alloc (by simp) _, by simp, ho, hB⟩
/-- .. with a box between, of another argument. -/
theorem opened3 {w : World} {B : Nat} {o : Objs} {vs vt : Value} (ho : objP w (· < B) [vs, vt] o) (hB : B ≤ w.heap.size) (b : Obj) :
    Opened w B o vs vt (w.heap.size + 1 + 1) (((w.alloc (.cells #[vs, vt] 26)).alloc b).alloc (.cells #[.slice none 0 0, .slice none 0 0] 26)) ∧
      (((w.alloc (.cells #[vs, vt] 26)).alloc b).alloc (.cells #[.slice none 0 0, .slice none 0 0] 26)).heap[w.heap.size + 1]? = some b := by
  have e1 : (w.alloc (.cells #[vs, vt] 26)).heap.size = w.heap.size + 1 := by simp
  have e2 : ((w.alloc (.cells #[vs, vt] 26)).alloc b).heap.size = w.heap.size + 1 + 1 := by simp
  have r1 := heap_alloc_new (w.alloc (.cells #[vs, vt] 26)) b
  have r2 := heap_alloc_new ((w.alloc (.cells #[vs, vt] 26)).alloc b) (.cells #[.slice none 0 0, .slice none 0 0] 26)
  rw [e1] at r1
  rw [e2] at r2
  exact ⟨⟨(Below.heap_alloc _ _ _ (by rw [e2]; omega)).trans ((Below.heap_alloc _ _ _ (by rw [e1]; omega)).trans (heap_alloc_new w _)), r2, (((Below.refl _ w).alloc (Nat.le_refl _) _).alloc (by simp) _).alloc (by simp; omega) _, ⟨by omega, by simp⟩, ho, hB⟩, (Below.heap_alloc _ _ _ (by rw [e2]; omega)).trans r1⟩
section
variable {w w0 W : World} {B p1 : Nat} {o : Objs} {vs vt : Value}
theorem Opened.at (h : Opened w B o vs vt p1 w0) (hb : Below w0.heap.size w0 W) : objP W (· < B) [vs, vt] o ∧ B ≤ W.heap.size ∧ W.heap[w.heap.size]? = some (.cells #[vs, vt] 26 (0, 0)) ∧ W.heap[p1]? = some (.cells #[.slice none 0 0, .slice none 0 0] 26 (0, 0)) ∧ Below w.heap.size w W ∧ (w.heap.size < p1 ∧ p1 < W.heap.size) := by
  have hs := h.size
  have hbs := hb.size
  have hB := h.base
  have hbl : Below w.heap.size w W := h.below.trans (hb.mono (by omega))
  exact ⟨obj_keep h.obj (fun _ h => h) (Keeps.of_below hbl fun k hk => Nat.lt_of_lt_of_le hk hB), by omega, (hb.block _ (by omega)).trans h.box, (hb.block _ (by omega)).trans h.res, hbl, by omega, by omega⟩
/-- The result's box is written last. -/
theorem Opened.close (h : Opened w B o vs vt p1 w0) (hb : Below w0.heap.size w0 W) {vs' vt' : Value} {r : Objs × Int} (hr : objP W (fun k => Sf w.heap.size W k ∧ k ≠ p1) [vs', vt'] r.1) :
    OutPost w r (.returned (.tuple #[.agg #[vs', vt'], .int .i64 r.2])) (W.setRow p1 #[vs', vt']) := by
  obtain ⟨_, _, _, h4, h5, h6⟩ := h.at hb
  have hkB : Keeps (fun j => j ≠ p1) W (W.setRow p1 #[vs', vt']) := ⟨rfl, rfl, rfl, by simp, fun j _ hj => setRow_other _ _ _ _ hj⟩
  exact ⟨_, _, rfl, obj_keep hr (fun k hk => hk.1.keep hkB hk.2) (hkB.mono fun k hk => hk.2), h5.trans (hkB.below (by omega) fun j hj => by omega)⟩
end

theorem ref_no_any (e : Int) (w : World) : Calls Try.prog 62 #[.int .i64 e] w fun e' w' => e' = .returned (.tuple #[.agg #[.slice none 0 0, .slice none 0 0], .int .i64 e]) ∧ Below w.heap.size w w' := by
  have HI : Hid ((Try.prog.info? 26).map (·.size) = some 2) := Lib.hid (by kernel_rfl)
  have HO2 : Hid ((#[.slice none 0 0, .slice none 0 0] : Array Value).all (·.oneCell') = true) := Lib.hid (by kernel_rfl)
  have hg := heap_alloc_new w (.cells #[.slice none 0 0, .slice none 0 0] 26)
  have HG := Lib.hid hg
  have HROW := Lib.hid (setRow_heap _ _ _ #[.slice none 0 0, .slice none 0 0] _ _ hg)
  clear hg
  go_enter Try.func62, Try.ntmps62
  go_wp2_with (refine wpList_store_box rfl 26 _ _ rfl w.heap.size 26 _ #[.slice none 0 0, .slice none 0 0] rfl rfl HG.out HI.out rfl HO2.out ?_)
  refine bodyPost_ret (results_box_tmp rfl _ _ w.heap.size _ _ (0, 0) _ rfl HROW.out Try.underlying26 rfl HI.out) rfl ?_
  refine ⟨rfl, ((Below.refl _ w).alloc (Nat.le_refl _) _).trans ⟨rfl, rfl, rfl, by simp, fun k hk => setRow_other _ _ _ _ (by omega)⟩⟩

section
variable {α : Type} {Q : Elem α} {w : World} {B : Nat} {e : TypeId} {sz : Nat} {v : Value} {l : List α}
/-- An element's cells. -/
theorem OwnX.at (h : OwnX Q w B e sz v l) (hQ : Stays Q sz) {k : Nat} (hk : k < l.length) : ∃ g cap x, v = .slice (some ⟨g, 0, none⟩) l.length cap ∧ l.length ≤ cap ∧ cap ≤ maxLen ∧ Sf B w g ∧ Q w (fun k => Sf B w k ∧ v.ownBlock ≠ some k) x l[k] ∧ ∀ j u, x[j]? = some u → w.cell? ⟨g, k * sz + j, none⟩ = some u := by
  have hL := h.lst hQ
  have hb := fun g hg => h.block (g := g) hg
  obtain ⟨a, cap, rfl, hc1, hc2⟩ := h.form
  obtain ⟨xss, hown, hlen, hel⟩ := h
  obtain ⟨g, cap', he, _, _⟩ := hown.form (by omega)
  cases he
  have hxk : xss[k]? = some (xss[k]'(by omega)) := List.getElem?_eq_getElem (by omega)
  refine ⟨g, cap, _, rfl, hc1, hc2, hb g rfl, hel k _ _ hxk (List.getElem?_eq_getElem hk), fun j u hu => ?_⟩
  have hsz : ∀ x ∈ xss, x.length = sz := by
    intro x hx
    obtain ⟨i, hi, rfl⟩ := List.mem_iff_getElem.1 hx
    exact hQ.size (hel i _ l[i] (List.getElem?_eq_getElem hi) (List.getElem?_eq_getElem (by omega)))
  have hj : j < sz := by have := (List.getElem?_eq_some_iff.1 hu).1; rw [hsz _ (List.getElem_mem _)] at this; exact this
  obtain ⟨hf1, hf2⟩ := flat_at hsz
  have h4 := hf2 k
  rw [hxk, Option.getD_some] at h4
  have hjn : k * sz + j < l.length * sz := by
    have := Nat.mul_le_mul_right sz (show k + 1 ≤ l.length by omega)
    rw [Nat.succ_mul] at this
    omega
  rw [hown.cellAt _ hjn]
  rw [← h4, List.getElem?_take, if_pos hj, List.getElem?_drop] at hu
  exact hu
theorem flat_set {sz : Nat} : ∀ {xss : List (List Value)} {k j : Nat} {u : Value}, (∀ x ∈ xss, x.length = sz) → (hk : k < xss.length) → j < sz → xss.flatten.set (k * sz + j) u = (xss.set k (xss[k].set j u)).flatten
  | [], k, j, u, _, hk, _ => by simp at hk
  | x :: xss, 0, j, u, h, _, hj => by
    have hx := h x (by simp)
    rw [Nat.zero_mul, Nat.zero_add, List.flatten_cons, List.set_append_left _ _ (by omega)]
    simp
  | x :: xss, k + 1, j, u, h, hk, hj => by
    have hx := h x (by simp)
    have ih := flat_set (u := u) (xss := xss) (k := k) (j := j) (fun y hy => h y (by simp [hy])) (by simpa using hk) hj
    rw [List.flatten_cons, List.set_append_right _ _ (by rw [hx, Nat.succ_mul]; omega), hx, show (k + 1) * sz + j - sz = k * sz + j by rw [Nat.succ_mul]; omega, ih]
    simp
/-- An element is changed in its place. -/
theorem OwnX.put {g cap : Nat} (h : OwnX Q w B e sz (.slice (some ⟨g, 0, none⟩) l.length cap) l) (hQ : Stays Q sz) {k j : Nat} (hk : k < l.length) (hj : j < sz) {u : Value} {y : α}
    (hy : ∀ x, Q w (fun k => Sf B w k ∧ k ≠ g) x l[k] → Q w (fun k => Sf B w k ∧ k ≠ g) (x.set j u) y) : OwnX Q (w.setCell ⟨g, k * sz + j, none⟩ u) B e sz (.slice (some ⟨g, 0, none⟩) l.length cap) (l.set k y) := by
  obtain ⟨xss, hown, hlen, hel⟩ := h
  have hkx : k < xss.length := by omega
  have hsz : ∀ x ∈ xss, x.length = sz := by
    intro x hx
    obtain ⟨i, hi, rfl⟩ := List.mem_iff_getElem.1 hx
    exact hQ.size (hel i _ l[i] (List.getElem?_eq_getElem hi) (List.getElem?_eq_getElem (by omega)))
  have hS : ∀ i, (Sf B w i ∧ (Value.slice (some ⟨g, 0, none⟩) l.length cap).ownBlock ≠ some i) ↔ (Sf B w i ∧ i ≠ g) := fun i => ⟨fun h => ⟨h.1, fun e => h.2 (by rw [e]; rfl)⟩, fun h => ⟨h.1, fun e => h.2 (by cases e; rfl)⟩⟩
  have hk2 : Keeps (fun i => Sf B w i ∧ i ≠ g) w (w.setCell ⟨g, k * sz + j, none⟩ u) := Keeps.refl.setCell (fun h => h.2 rfl) u
  have hS2 : ∀ i, (Sf B w i ∧ i ≠ g) → Sf B (w.setCell ⟨g, k * sz + j, none⟩ u) i ∧ (Value.slice (some ⟨g, 0, none⟩) l.length cap).ownBlock ≠ some i := fun i h => ⟨⟨h.1.1, h.1.2.setCell _ _ rfl⟩, ((hS i).2 h).2⟩
  have hst := (hown.stored (k * sz + j) u).1
  rw [flat_set hsz hkx hj] at hst
  refine ⟨xss.set k (xss[k].set j u), by rw [List.length_set]; exact hst, by rw [List.length_set, List.length_set]; exact hlen, fun i x z hx hz => ?_⟩
  by_cases e : i = k
  · subst e
    rw [List.getElem?_set_self hkx] at hx
    rw [List.getElem?_set_self hk] at hz
    cases hx; cases hz
    refine hQ.keep (hy _ ?_) hS2 hk2
    exact hQ.keep (hel i _ _ (List.getElem?_eq_getElem hkx) (List.getElem?_eq_getElem hk)) (fun i h => (hS i).1 h) Keeps.refl
  · rw [List.getElem?_set_ne (fun h => e h.symm)] at hx hz
    exact hQ.keep (hQ.keep (hel i x z hx hz) (fun i h => (hS i).1 h) Keeps.refl) hS2 hk2
end
theorem objX.set {w : World} {B : Nat} {vs : Value} {g cap : Nat} {o : Objs} (h : objX w B vs (.slice (some ⟨g, 0, none⟩) o.tables.length cap) o) {k j : Nat} (hk : k < o.tables.length) (hj : j < 5) {u : Value} {y : Tab}
    (hy : ∀ x, tabP w (fun k => Sf B w k ∧ k ≠ g) x o.tables[k] → tabP w (fun k => Sf B w k ∧ k ≠ g) (x.set j u) y) : objX (w.setCell ⟨g, k * 5 + j, none⟩ u) B vs (.slice (some ⟨g, 0, none⟩) o.tables.length cap) (putTab o k y) :=
  ⟨h.1.move (fun h => h) (S := (· ≠ g)) (Keeps.refl.setCell (by simp) _) fun g' hg' e => h.1.apart h.2 (by decide) hg' (by rw [e]; rfl), h.2.put tab_stays hk hj hy⟩
theorem objX.below {w w' : World} {B : Nat} {vs vt : Value} {o : Objs} (h : objX w B vs vt o) (hb : Below w.heap.size w w') : objX w' B vs vt o := ⟨h.1.below sch_stays hb, h.2.below tab_stays hb⟩
theorem objX.close {w W : World} {B : Nat} {vs vt : Value} {o : Objs} {p1 : Nat} (h : objX W B vs vt o) (hB : w.heap.size < p1 ∧ p1 < B) : objP W (fun k => Sf w.heap.size W k ∧ k ≠ p1) [vs, vt] o :=
  obj_keep h.obj (fun k hk => ⟨hk.mono (by omega), by have := hk.1; omega⟩) Keeps.refl
/-- Soft blocks from b on that lie ahead of p. -/
def Mid2 (b p : Nat) (w : World) (k : Nat) : Prop := Sf b w k ∧ k < p
theorem tabs_on {w w' : World} {b p : Nat} {v : Value} {l : List Tab} (h : Lst w (Mid2 b p w) (tabP w (Mid2 b p w)) 5 v l) {S : Nat → Prop} (hk : Keeps S w w') (hs : ∀ k, k < p → S k) : Lst w' (Mid2 b p w') (tabP w' (Mid2 b p w')) 5 v l :=
  tabs_keep h (fun k hk' => ⟨hk'.1.keep hk (hs k hk'.2), hk'.2⟩) (hk.mono fun k hk' => hs k hk'.2)
theorem schs_on {w w' : World} {b p : Nat} {v : Value} {l : List Sch} (h : Lst w (Mid2 b p w) schP 2 v l) {S : Nat → Prop} (hk : Keeps S w w') (hs : ∀ k, k < p → S k) : Lst w' (Mid2 b p w') schP 2 v l :=
  schs_keep h (fun k hk' => ⟨hk'.1.keep hk (hs k hk'.2), hk'.2⟩) (hk.mono fun k hk' => hs k hk'.2)
theorem objX.mid {w : World} {b p : Nat} {vs vt : Value} {o : Objs} (h : objX w b vs vt o) (hp : w.heap.size = p) : Lst w (Mid2 b p w) schP 2 vs o.schemas ∧ Lst w (Mid2 b p w) (tabP w (Mid2 b p w)) 5 vt o.tables :=
  ⟨schs_keep (h.1.lst sch_stays) (fun _ hk => ⟨hk, hp ▸ hk.lt⟩) Keeps.refl, tabs_keep (h.2.lst tab_stays) (fun _ hk => ⟨hk, hp ▸ hk.lt⟩) Keeps.refl⟩
/-- One more element, in two steps: what append asks, what it leaves. -/
theorem OwnX.step {α : Type} {Q : Elem α} {w1 : World} {B : Nat} {e : TypeId} {sz : Nat} {v : Value} {l : List α} (h : OwnX Q w1 B e sz v l) (hQ : Stays Q sz) {X : List Value} {y : α} (hx : Q w1 (fun k => Sf B w1 k ∧ v.ownBlock ≠ some k) X y) :
    ∃ xs, (∀ o, (w1.alloc o).ownsRow B e sz v l.length xs) ∧ ∀ v3 w6 o, w6.ownsRow B e sz v3 (l.length + 1) (xs ++ X) → (w1.alloc o).grownBy w6 v.ownBlock → (v3.ownBlock = v.ownBlock ∨ v3.ownBlock = some (w1.heap.size + 1)) →
      OwnX Q w6 B e sz v3 (l ++ [y]) ∧ Keeps (fun j => v.ownBlock ≠ some j) w1 w6 := by
  obtain ⟨xss, hown, hlen, hel⟩ := h
  exact ⟨xss.flatten, fun o => hown.alloc o, fun v3 w6 o ho hg hat => ⟨OwnX.push hQ hown hlen hel hx ho hg hat, (Keeps.refl.alloc o).trans (Keeps.of_grown (S := fun j => v.ownBlock ≠ some j) hg fun j hj hn => hn hj)⟩⟩
theorem OwnX.stepBelow {α : Type} {Q : Elem α} {w1 w6 : World} {B : Nat} {e : TypeId} {sz : Nat} {v : Value} {l : List α} (h : OwnX Q w1 B e sz v l) (hk : Keeps (fun j => v.ownBlock ≠ some j) w1 w6) (hB : B ≤ w1.heap.size) : Below B w1 w6 :=
  hk.below hB fun j hj e => by have := (h.block e).1; omega

theorem filt_in {α : Type} {p : α → Bool} {l : List α} {k : Nat} (h : k < l.length) (hp : p l[k] = true) : (l.take (k + 1)).filter p = (l.take k).filter p ++ [l[k]] := by
  rw [List.take_succ_eq_append_getElem h, List.filter_append]
  simp [hp]
theorem filt_out {α : Type} {p : α → Bool} {l : List α} {k : Nat} (h : k < l.length) (hp : p l[k] = false) : (l.take (k + 1)).filter p = (l.take k).filter p := by
  rw [List.take_succ_eq_append_getElem h, List.filter_append]
  simp [hp]
theorem filt_len {α : Type} (p : α → Bool) (l : List α) (k : Nat) : ((l.take k).filter p).length ≤ k := Nat.le_trans (List.length_filter_le _ _) (List.length_take_le _ _)
theorem any_step {α : Type} {p : α → Bool} {l : List α} {k : Nat} (h : k < l.length) (u : Bool) : (u || (l.take (k + 1)).any p) = ((u || (l.take k).any p) || p l[k]) := by
  rw [List.take_succ_eq_append_getElem h, List.any_append]
  simp [Bool.or_assoc]
theorem tab_at {o : Objs} {s n : ByteArray} (h : ¬ tabI o.tables s n < 0) : ∃ k : Nat, ∃ h : k < o.tables.length, tabI o.tables s n = k ∧ tabA o s n = o.tables[k] := by
  obtain ⟨k, hk⟩ : ∃ k : Nat, tabI o.tables s n = k := ⟨(tabI o.tables s n).toNat, by omega⟩
  have hlt := idxI_lt (fun x : Tab => eqT x.schema s && eqT x.name n) o.tables
  have hkl : k < o.tables.length := by unfold tabI at hk; omega
  refine ⟨k, hkl, hk, ?_⟩
  unfold tabA
  rw [hk]
  simp [List.getD, List.getElem?_eq_getElem hkl]
end Go.Proofs.Ytkghkioghkapcaa
