/-
  Roles as mathematics: who is whose; going through by depth; when roles are right.
-/
import Derived.Test.YtekhkmhpeefenaaObjM
namespace Go.Proofs.Ytekhkmhpeefenaa
set_option linter.unusedVariables false

structure Mem where
  role : ByteArray
  of : ByteArray
deriving DecidableEq
structure Rols where
  names : List ByteArray
  mems : List Mem
deriving DecidableEq

/-- From a to b, none or more steps from a Role to its Of. -/
inductive Way (ms : List Mem) : ByteArray → ByteArray → Prop
  | refl (a : ByteArray) : Way ms a a
  | step {a b c : ByteArray} : (⟨a, b⟩ : Mem) ∈ ms → Way ms b c → Way ms a c
theorem Way.trans {ms : List Mem} {a b c : ByteArray} (h : Way ms a b) (g : Way ms b c) : Way ms a c := by
  induction h with
  | refl => exact g
  | step hm _ ih => exact .step hm (ih g)
theorem Way.snoc {ms : List Mem} {a b c : ByteArray} (h : Way ms a b) (g : (⟨b, c⟩ : Mem) ∈ ms) : Way ms a c := h.trans (.step g (.refl _))
noncomputable def wayB (ms : List Mem) (a b : ByteArray) : Bool := @decide (Way ms a b) (Classical.propDecidable _)
theorem wayB_iff {ms : List Mem} {a b : ByteArray} : wayB ms a b = true ↔ Way ms a b := by unfold wayB; rw [@decide_eq_true_iff _ (Classical.propDecidable _)]
theorem wayB_no {ms : List Mem} {a b : ByteArray} : wayB ms a b = false ↔ ¬ Way ms a b := by unfold wayB; rw [@decide_eq_false_iff_not _ (Classical.propDecidable _)]
/-- Somebody is reached from himself, by one step or more. -/
def Cyc (ms : List Mem) : Prop := ∃ m ∈ ms, Way ms m.of m.role
/-- No way from here goes on for ever. -/
inductive Good (ms : List Mem) : ByteArray → Prop
  | mk {x : ByteArray} : (∀ y, (⟨x, y⟩ : Mem) ∈ ms → Good ms y) → Good ms x
theorem Good.way {ms : List Mem} {x y : ByteArray} (h : Good ms x) (g : Way ms x y) : Good ms y := by
  induction g with
  | refl => exact h
  | step hm _ ih => cases h with | mk h => exact ih (h _ hm)
theorem Good.none {ms : List Mem} {x : ByteArray} (h : Good ms x) : ∀ y, (⟨x, y⟩ : Mem) ∈ ms → ¬ Way ms y x := by
  induction h with
  | mk h ih =>
    rename_i x
    intro y hy hw
    cases hw with
    | refl => exact ih _ hy _ hy (.refl _)
    | step hm hw' => exact ih _ hy _ hm (hw'.trans (.step hy (.refl _)))
theorem mem_eta (m : Mem) : (⟨m.role, m.of⟩ : Mem) = m := rfl

abbrev Clr := ByteArray → Int
def upd (c : Clr) (v : ByteArray) (i : Int) : Clr := fun x => if x = v then i else c x
theorem upd_same (c : Clr) (v : ByteArray) (i : Int) : upd c v i v = i := by unfold upd; rw [if_pos rfl]
theorem upd_other (c : Clr) {v x : ByteArray} (i : Int) (h : x ≠ v) : upd c v i x = c x := by unfold upd; rw [if_neg h]
/-- How many members' Ofs have not been seen. -/
def whites (ms : List Mem) (c : Clr) : Nat := (ms.filter fun m => decide (c m.of = 0)).length
theorem fltLe {α : Type} {p q : α → Bool} : ∀ {l : List α}, (∀ x ∈ l, p x = true → q x = true) → (l.filter p).length ≤ (l.filter q).length
  | [], _ => by simp
  | x :: l, h => by
    have ih := fltLe (l := l) fun y hy => h y (List.mem_cons_of_mem _ hy)
    have hx := h x (List.mem_cons_self ..)
    rw [List.filter_cons, List.filter_cons]
    cases hp : p x <;> cases hq : q x
    · simpa using ih
    · simp; omega
    · rw [hx hp] at hq; cases hq
    · simpa using ih
theorem fltLt {α : Type} {p q : α → Bool} : ∀ {l : List α}, (∀ x ∈ l, p x = true → q x = true) → (∃ x ∈ l, p x = false ∧ q x = true) → (l.filter p).length < (l.filter q).length
  | [], _, ⟨x, hx, _⟩ => by cases hx
  | x :: l, h, ⟨y, hy, hp, hq⟩ => by
    have hle := fltLe (l := l) fun y hy => h y (List.mem_cons_of_mem _ hy)
    have hx := h x (List.mem_cons_self ..)
    rw [List.filter_cons, List.filter_cons]
    rcases List.mem_cons.1 hy with rfl | hy
    · rw [hp, hq]; simp; omega
    · have ih := fltLt (l := l) (fun y hy => h y (List.mem_cons_of_mem _ hy)) ⟨y, hy, hp, hq⟩
      cases hp : p x <;> cases hq : q x
      · simpa using ih
      · simp; omega
      · rw [hx hp] at hq; cases hq
      · simpa using ih
theorem whites_le {ms : List Mem} {c d : Clr} (h : ∀ x, c x = 0 → d x = 0) : whites ms c ≤ whites ms d :=
  fltLe fun m _ hm => by rw [decide_eq_true_eq] at hm ⊢; exact h _ hm
theorem whites_less {ms : List Mem} {c d : Clr} (h : ∀ x, c x = 0 → d x = 0) {m : Mem} (hm : m ∈ ms) (h1 : c m.of ≠ 0) (h2 : d m.of = 0) : whites ms c < whites ms d :=
  fltLt (fun m _ hm => by rw [decide_eq_true_eq] at hm ⊢; exact h _ hm) ⟨m, hm, by rw [decide_eq_false_iff_not]; exact h1, by rw [decide_eq_true_eq]; exact h2⟩
theorem whites_all (ms : List Mem) (c : Clr) : whites ms c ≤ ms.length := List.length_filter_le _ _

def Three (c : Clr) : Prop := ∀ x, c x = 0 ∨ c x = 1 ∨ c x = 2
/-- Before v is gone through. -/
structure Dfs (ms : List Mem) (c : Clr) (r : Bool) (v : ByteArray) : Prop where
  new : c v = 0
  begun : ∀ y, c y = 1 → Way ms y v
  three : Three c
  good : r = false → ∀ x, c x = 2 → Good ms x
  cyc : r = true → Cyc ms
/-- While v is gone through: its first k members have been looked at. -/
structure Mid (ms : List Mem) (c0 : Clr) (r0 : Bool) (v : ByteArray) (k : Nat) (c : Clr) (r : Bool) : Prop where
  here : c v = 1
  old : ∀ x, x ≠ v → c0 x ≠ 0 → c x = c0 x
  fresh : ∀ x, x ≠ v → c0 x = 0 → c x = 0 ∨ (c x = 2 ∧ Way ms v x)
  shut : ∀ x, x ≠ v → c0 x = 0 → c x = 2 → ∀ y, (⟨x, y⟩ : Mem) ∈ ms → c y ≠ 0
  three : Three c
  good : r = false → ∀ x, c x = 2 → Good ms x
  cyc : r = true → Cyc ms
  on : r0 = true → r = true
  done : ∀ j (h : j < ms.length), j < k → ms[j].role = v → c ms[j].of ≠ 0
  fine : r = false → ∀ j (h : j < ms.length), j < k → ms[j].role = v → c ms[j].of = 2
/-- Behind it. -/
structure Vis (ms : List Mem) (c0 : Clr) (r0 : Bool) (v : ByteArray) (c : Clr) (r : Bool) : Prop where
  here : c v = 2
  old : ∀ x, c0 x ≠ 0 → c x = c0 x
  fresh : ∀ x, c0 x = 0 → c x = 0 ∨ (c x = 2 ∧ Way ms v x)
  shut : ∀ x, c0 x = 0 → c x = 2 → ∀ y, (⟨x, y⟩ : Mem) ∈ ms → c y ≠ 0
  three : Three c
  good : r = false → ∀ x, c x = 2 → Good ms x
  cyc : r = true → Cyc ms
  on : r0 = true → r = true
section
variable {ms : List Mem} {c0 c c' : Clr} {r0 r r' : Bool} {v : ByteArray} {k : Nat}
theorem Dfs.start (h : Dfs ms c0 r0 v) : Mid ms c0 r0 v 0 (upd c0 v 1) r0 where
  here := upd_same _ _ _
  old x hx _ := upd_other _ _ hx
  fresh x hx h0 := .inl (by rw [upd_other _ _ hx]; exact h0)
  shut x hx h0 h2 := by rw [upd_other _ _ hx, h0] at h2; cases h2
  three x := by
    by_cases e : x = v
    · subst e; rw [upd_same]; exact .inr (.inl rfl)
    · rw [upd_other _ _ e]; exact h.three x
  good hr x hx := by
    by_cases e : x = v
    · subst e; rw [upd_same] at hx; cases hx
    · rw [upd_other _ _ e] at hx; exact h.good hr x hx
  cyc := h.cyc
  on := id
  done j _ hj := by omega
  fine _ j _ hj := by omega
theorem Mid.skip (h : Mid ms c0 r0 v k c r) (hk : k < ms.length) (hn : ms[k].role ≠ v) : Mid ms c0 r0 v (k + 1) c r :=
  { h with
    done := fun j hj hjk he => by
      by_cases e : j = k
      · subst e; exact absurd he hn
      · exact h.done j hj (by omega) he
    fine := fun hr j hj hjk he => by
      by_cases e : j = k
      · subst e; exact absurd he hn
      · exact h.fine hr j hj (by omega) he }
theorem Mid.black (h : Mid ms c0 r0 v k c r) (hk : k < ms.length) (h2 : c ms[k].of = 2) : Mid ms c0 r0 v (k + 1) c r :=
  { h with
    done := fun j hj hjk he => by
      by_cases e : j = k
      · subst e; rw [h2]; decide
      · exact h.done j hj (by omega) he
    fine := fun hr j hj hjk he => by
      by_cases e : j = k
      · subst e; exact h2
      · exact h.fine hr j hj (by omega) he }
theorem Mid.begun (h : Mid ms c0 r0 v k c r) (hd : Dfs ms c0 r0 v) {y : ByteArray} (hy : c y = 1) : Way ms y v := by
  by_cases e : y = v
  · subst e; exact .refl _
  · by_cases h0 : c0 y = 0
    · rcases h.fresh y e h0 with h1 | ⟨h1, _⟩ <;> rw [hy] at h1 <;> cases h1
    · exact hd.begun y ((h.old y e h0).symm.trans hy)
theorem Mid.gray (h : Mid ms c0 r0 v k c r) (hd : Dfs ms c0 r0 v) (hk : k < ms.length) (hv : ms[k].role = v) (h1 : c ms[k].of = 1) : Mid ms c0 r0 v (k + 1) c true :=
  { h with
    good := fun hr => by cases hr
    cyc := fun _ => ⟨ms[k], List.getElem_mem hk, by rw [hv]; exact h.begun hd h1⟩
    on := fun _ => rfl
    done := fun j hj hjk he => by
      by_cases e : j = k
      · subst e; rw [h1]; decide
      · exact h.done j hj (by omega) he
    fine := fun hr => by cases hr }
theorem edge {k : Nat} (hk : k < ms.length) (hv : ms[k].role = v) : (⟨v, ms[k].of⟩ : Mem) ∈ ms := by
  have := List.getElem_mem hk
  rw [← mem_eta ms[k], hv] at this
  exact this
theorem Mid.dfs (h : Mid ms c0 r0 v k c r) (hd : Dfs ms c0 r0 v) (hk : k < ms.length) (hv : ms[k].role = v) (h0 : c ms[k].of = 0) : Dfs ms c r ms[k].of where
  new := h0
  begun y hy := (h.begun hd hy).snoc (edge hk hv)
  three := h.three
  good := h.good
  cyc := h.cyc
theorem Mid.visit (h : Mid ms c0 r0 v k c r) (hk : k < ms.length) (hv : ms[k].role = v) (h0 : c ms[k].of = 0) (g : Vis ms c r ms[k].of c' r') : Mid ms c0 r0 v (k + 1) c' r' where
  here := (g.old v (by rw [h.here]; decide)).trans h.here
  old x hx hx0 := (g.old x (by rw [h.old x hx hx0]; exact hx0)).trans (h.old x hx hx0)
  fresh x hx hx0 := by
    rcases h.fresh x hx hx0 with h1 | ⟨h1, h2⟩
    · rcases g.fresh x h1 with h3 | ⟨h3, h4⟩
      · exact .inl h3
      · exact .inr ⟨h3, .step (edge hk hv) h4⟩
    · exact .inr ⟨(g.old x (by rw [h1]; decide)).trans h1, h2⟩
  shut x hx hx0 h2 y hy := by
    rcases h.fresh x hx hx0 with h1 | ⟨h1, _⟩
    · exact g.shut x h1 h2 y hy
    · have h3 := h.shut x hx hx0 h1 y hy
      rw [g.old y h3]; exact h3
  three := g.three
  good := g.good
  cyc := g.cyc
  on hr := g.on (h.on hr)
  done j hj hjk he := by
    by_cases e : j = k
    · subst e; rw [g.here]; decide
    · have h3 := h.done j hj (by omega) he
      rw [g.old _ h3]; exact h3
  fine hr j hj hjk he := by
    by_cases e : j = k
    · subst e; exact g.here
    · have hr2 : r = false := by
        cases hrr : r with
        | false => rfl
        | true => rw [g.on hrr] at hr; cases hr
      have h3 := h.fine hr2 j hj (by omega) he
      exact (g.old _ (by rw [h3]; decide)).trans h3
theorem Mid.finish (h : Mid ms c0 r0 v ms.length c r) (hd : Dfs ms c0 r0 v) : Vis ms c0 r0 v (upd c v 2) r := by
  have hz : ∀ y, c y ≠ 0 → upd c v 2 y ≠ 0 := fun y hy => by
    by_cases e : y = v
    · subst e; rw [upd_same]; decide
    · rw [upd_other _ _ e]; exact hy
  have hout : ∀ y, (⟨v, y⟩ : Mem) ∈ ms → ∃ j, ∃ h : j < ms.length, ms[j].role = v ∧ ms[j].of = y := fun y hy => by
    obtain ⟨j, hj, he⟩ := List.mem_iff_getElem.1 hy
    exact ⟨j, hj, by rw [he], by rw [he]⟩
  refine ⟨upd_same _ _ _, fun x hx => ?_, fun x hx => ?_, fun x hx h2 y hy => ?_, fun x => ?_, fun hr x hx => ?_, h.cyc, h.on⟩
  · have e : x ≠ v := fun e => hx (by rw [e]; exact hd.new)
    rw [upd_other _ _ e]; exact h.old x e hx
  · by_cases e : x = v
    · subst e; exact .inr ⟨upd_same _ _ _, .refl _⟩
    · rw [upd_other _ _ e]; exact h.fresh x e hx
  · by_cases e : x = v
    · subst e
      obtain ⟨j, hj, h3, h4⟩ := hout y hy
      exact hz y (by rw [← h4]; exact h.done j hj hj h3)
    · rw [upd_other _ _ e] at h2
      exact hz y (h.shut x e hx h2 y hy)
  · by_cases e : x = v
    · subst e; rw [upd_same]; exact .inr (.inr rfl)
    · rw [upd_other _ _ e]; exact h.three x
  · by_cases e : x = v
    · subst e
      refine .mk fun y hy => ?_
      obtain ⟨j, hj, h3, h4⟩ := hout y hy
      exact h.good hr y (by rw [← h4]; exact h.fine hr j hj hj h3)
    · rw [upd_other _ _ e] at hx; exact h.good hr x hx
theorem Vis.white (g : Vis ms c0 r0 v c r) {x : ByteArray} (h : c x = 0) : c0 x = 0 := by
  by_cases h0 : c0 x = 0
  · exact h0
  · exact absurd ((g.old x h0).symm.trans h) h0
theorem Mid.white (g : Mid ms c0 r0 v k c r) {x : ByteArray} (h : c x = 0) : upd c0 v 1 x = 0 := by
  have e : x ≠ v := fun e => by subst e; rw [g.here] at h; cases h
  rw [upd_other _ _ e]
  by_cases h0 : c0 x = 0
  · exact h0
  · exact absurd ((g.old x e h0).symm.trans h) h0
theorem whites_upd {c : Clr} {y : ByteArray} (hk : k < ms.length) (hy : ms[k].of = y) (h0 : c y = 0) : whites ms (upd c y 1) < whites ms c := by
  refine whites_less (fun x hx => ?_) (List.getElem_mem hk) ?_ ?_
  · by_cases e : x = y
    · subst e; exact h0
    · rw [upd_other _ _ e] at hx; exact hx
  · rw [hy, upd_same]; decide
  · rw [hy]; exact h0
theorem whites_end {c : Clr} {y : ByteArray} {i : Int} (hi : i ≠ 0) : whites ms (upd c y i) ≤ whites ms c :=
  whites_le fun x hx => by
    by_cases e : x = y
    · subst e; rw [upd_same] at hx; exact absurd hx hi
    · rw [upd_other _ _ e] at hx; exact hx
end

/-- The first i of a row of roles have been gone through. -/
structure Top (ms : List Mem) (fr : List ByteArray) (i : Nat) (c : Clr) (r : Bool) : Prop where
  two : ∀ x, c x = 0 ∨ c x = 2
  way : ∀ x, c x = 2 → ∃ j, ∃ h : j < fr.length, j < i ∧ Way ms fr[j] x
  shut : ∀ x, c x = 2 → ∀ y, (⟨x, y⟩ : Mem) ∈ ms → c y = 2
  done : ∀ j (h : j < fr.length), j < i → c fr[j] = 2
  good : r = false → ∀ x, c x = 2 → Good ms x
  cyc : r = true → Cyc ms
section
variable {ms : List Mem} {fr : List ByteArray} {c c' : Clr} {r r' : Bool} {i : Nat}
theorem Top.start (ms : List Mem) (fr : List ByteArray) : Top ms fr 0 (fun _ => 0) false :=
  ⟨fun _ => .inl rfl, fun x h => by simp at h, fun x h => by simp at h, fun j _ h => by omega, fun _ x h => by simp at h, fun h => by cases h⟩
theorem Top.skip (h : Top ms fr i c r) (hi : i < fr.length) (h2 : c fr[i] ≠ 0) : Top ms fr (i + 1) c r :=
  { h with
    way := fun x hx => by obtain ⟨j, hj, h1, h3⟩ := h.way x hx; exact ⟨j, hj, by omega, h3⟩
    done := fun j hj hji => by
      by_cases e : j = i
      · subst e; rcases h.two fr[j] with h3 | h3
        · exact absurd h3 h2
        · exact h3
      · exact h.done j hj (by omega) }
theorem Top.dfs (h : Top ms fr i c r) (hi : i < fr.length) (h0 : c fr[i] = 0) : Dfs ms c r fr[i] :=
  ⟨h0, fun y hy => absurd hy (by rcases h.two y with h1 | h1 <;> rw [h1] <;> decide), fun x => (by rcases h.two x with h1 | h1 <;> simp [h1]), h.good, h.cyc⟩
theorem Top.visit (h : Top ms fr i c r) (hi : i < fr.length) (g : Vis ms c r fr[i] c' r') : Top ms fr (i + 1) c' r' := by
  have htwo : ∀ x, c' x = 0 ∨ c' x = 2 := fun x => by
    rcases h.two x with h1 | h1
    · rcases g.fresh x h1 with h2 | ⟨h2, _⟩
      · exact .inl h2
      · exact .inr h2
    · exact .inr ((g.old x (by rw [h1]; decide)).trans h1)
  refine ⟨htwo, fun x hx => ?_, fun x hx y hy => ?_, fun j hj hji => ?_, g.good, g.cyc⟩
  · rcases h.two x with h1 | h1
    · rcases g.fresh x h1 with h2 | ⟨_, h3⟩
      · rw [hx] at h2; cases h2
      · exact ⟨i, hi, by omega, h3⟩
    · obtain ⟨j, hj, h2, h3⟩ := h.way x h1; exact ⟨j, hj, by omega, h3⟩
  · rcases htwo y with h0 | h0
    · exfalso
      rcases h.two x with h1 | h1
      · exact g.shut x h1 hx y hy h0
      · have h3 := h.shut x h1 y hy
        rw [g.old y (by rw [h3]; decide), h3] at h0; cases h0
    · exact h0
  · by_cases e : j = i
    · subst e; exact g.here
    · have h3 := h.done j hj (by omega)
      exact (g.old _ (by rw [h3]; decide)).trans h3
/-- From one role: what has been seen is what it is. -/
theorem Top.seen {a : ByteArray} (h : Top ms [a] 1 c r) (x : ByteArray) : c x = 0 ↔ ¬ Way ms a x := by
  constructor
  · intro h0 hw
    have h1 : c a = 2 := h.done 0 (by simp) (by omega)
    have : ∀ {y z}, Way ms y z → c y = 2 → c z = 2 := fun {y z} hw => by
      induction hw with
      | refl => exact id
      | step hm _ ih => exact fun h3 => ih (h.shut _ h3 _ hm)
    rw [this hw h1] at h0; cases h0
  · intro hw
    rcases h.two x with h1 | h1
    · exact h1
    · obtain ⟨j, hj, h2, h3⟩ := h.way x h1
      obtain rfl : j = 0 := by omega
      exact absurd h3 hw
/-- From all names: a ring was come upon where there is one. -/
theorem Top.ring (h : Top ms fr fr.length c r) (hin : ∀ m ∈ ms, m.role ∈ fr) : r = true ↔ Cyc ms := by
  refine ⟨h.cyc, fun ⟨m, hm, hw⟩ => ?_⟩
  cases hr : r with
  | true => rfl
  | false =>
    obtain ⟨j, hj, he⟩ := List.mem_iff_getElem.1 (hin m hm)
    have h1 := h.good hr _ (h.done j hj hj)
    rw [he] at h1
    exact absurd hw (h1.none m.of hm)
end

/-- A member comes ahead of another. -/
def ltM (a b : Mem) : Bool := ltT a.role b.role || (eqT a.role b.role && ltT a.of b.of)
theorem ltM_iff {a b : Mem} : ltM a b = true ↔ ltT a.role b.role = true ∨ (a.role = b.role ∧ ltT a.of b.of = true) := by
  unfold ltM; rw [Bool.or_eq_true, Bool.and_eq_true, eqT_iff]
theorem ltM_irr (a : Mem) : ltM a a = false := by unfold ltM; rw [ltT_irr, ltT_irr]; simp
theorem ltM_trans {a b c : Mem} (h : ltM a b = true) (g : ltM b c = true) : ltM a c = true := by
  rw [ltM_iff] at *
  rcases h with h | ⟨h1, h2⟩ <;> rcases g with g | ⟨g1, g2⟩
  · exact .inl (ltT_trans h g)
  · exact .inl (by rw [← g1]; exact h)
  · exact .inl (by rw [h1]; exact g)
  · exact .inr ⟨h1.trans g1, ltT_trans h2 g2⟩
theorem ltM_or (a b : Mem) : ltM a b = true ∨ a = b ∨ ltM b a = true := by
  rw [ltM_iff, ltM_iff]
  rcases ltT_or (a := a.role) (b := b.role) with h | h | h
  · exact .inl (.inl h)
  · rcases ltT_or (a := a.of) (b := b.of) with g | g | g
    · exact .inl (.inr ⟨h, g⟩)
    · exact .inr (.inl (by cases a; cases b; simp_all))
    · exact .inr (.inr (.inr ⟨h.symm, g⟩))
  · exact .inr (.inr (.inl h))
theorem ltM_anti {a b : Mem} (h : ltM a b = true) : ltM b a = false := by
  cases g : ltM b a with
  | false => rfl
  | true => have := ltM_trans h g; rw [ltM_irr] at this; cases this

def nameAt (l : List ByteArray) (k : Nat) : Bool := match l[k]? with
  | some s => nameB s && (decide (k = 0) || (match l[k - 1]? with | some a => ltT a s | none => true))
  | none => true
def memAt (r : Rols) (k : Nat) : Bool := match r.mems[k]? with
  | some m => inB r.names m.role && inB r.names m.of && (decide (k = 0) || (match r.mems[k - 1]? with | some a => ltM a m | none => true))
  | none => true
def rowsR (r : Rols) : Bool := (List.range r.names.length).all (nameAt r.names) && (List.range r.mems.length).all (memAt r)
/-- What a role is, in the order of the names. -/
noncomputable def reachL (r : Rols) (a : ByteArray) : List ByteArray := r.names.filter (wayB r.mems a)
noncomputable def noRing (r : Rols) : Bool := r.mems.all fun m => !(inB (reachL r m.of) m.role)
noncomputable def rightR (r : Rols) : Bool := decide (r.names.length ≤ 16) && (decide (r.mems.length ≤ 256) && rowsR r) && noRing r
theorem inB_iff {l : List ByteArray} {s : ByteArray} : inB l s = true ↔ s ∈ l := by
  unfold inB
  rw [List.any_eq_true]
  exact ⟨fun ⟨x, h1, h2⟩ => by rw [eqT_iff] at h2; rw [← h2]; exact h1, fun h => ⟨s, h, eqT_refl s⟩⟩
theorem all_rng {n : Nat} {p : Nat → Bool} : (List.range n).all p = true ↔ ∀ k, k < n → p k = true := by
  rw [List.all_eq_true]; exact ⟨fun h k hk => h k (List.mem_range.2 hk), fun h k hk => h k (List.mem_range.1 hk)⟩
theorem nameAt_iff {l : List ByteArray} {k : Nat} (hk : k < l.length) : nameAt l k = true ↔ nameB l[k] = true ∧ (∀ h : 0 < k, ltT (l[k - 1]'(by omega)) l[k] = true) := by
  unfold nameAt
  rw [List.getElem?_eq_getElem hk]
  simp only [Bool.and_eq_true, Bool.or_eq_true, decide_eq_true_eq]
  refine and_congr_right fun _ => ?_
  by_cases h0 : k = 0
  · subst h0; simp
  · rw [List.getElem?_eq_getElem (show k - 1 < l.length by omega)]
    simp only [h0, false_or]
    exact ⟨fun h _ => h, fun h => h (by omega)⟩
theorem memAt_iff {r : Rols} {k : Nat} (hk : k < r.mems.length) : memAt r k = true ↔ (r.mems[k].role ∈ r.names ∧ r.mems[k].of ∈ r.names) ∧ (∀ h : 0 < k, ltM (r.mems[k - 1]'(by omega)) r.mems[k] = true) := by
  unfold memAt
  rw [List.getElem?_eq_getElem hk]
  simp only [Bool.and_eq_true, Bool.or_eq_true, decide_eq_true_eq, inB_iff]
  refine and_congr_right fun _ => ?_
  by_cases h0 : k = 0
  · subst h0; simp
  · rw [List.getElem?_eq_getElem (show k - 1 < r.mems.length by omega)]
    simp only [h0, false_or]
    exact ⟨fun h _ => h, fun h => h (by omega)⟩
/-- A list rises, told by neighbours. -/
def RiseBy {α : Type} (lt : α → α → Bool) (l : List α) : Prop := ∀ k (h : k < l.length), ∀ h0 : 0 < k, lt (l[k - 1]'(by omega)) l[k] = true
theorem rise_pairs {α : Type} {lt : α → α → Bool} (tr : ∀ {a b c}, lt a b = true → lt b c = true → lt a c = true) {l : List α} (h : RiseBy lt l) : l.Pairwise fun a b => lt a b = true := by
  rw [List.pairwise_iff_getElem]
  intro i j hi hj hij
  obtain ⟨d, rfl⟩ : ∃ d, j = i + 1 + d := ⟨j - i - 1, by omega⟩
  induction d with
  | zero => have := h (i + 1) hj (by omega); simpa using this
  | succ d ih =>
    have h1 := ih (by omega) (by omega)
    have h2 := h (i + 1 + (d + 1)) hj (by omega)
    exact tr h1 (by simpa using h2)
theorem pairs_rise {α : Type} {lt : α → α → Bool} {l : List α} (h : l.Pairwise fun a b => lt a b = true) : RiseBy lt l := fun k hk h0 => (List.pairwise_iff_getElem.1 h) (k - 1) k (by omega) hk (by omega)
/-- What right roles are. -/
structure RightR (r : Rols) : Prop where
  few : r.names.length ≤ 16
  names : ∀ n ∈ r.names, nameB n = true
  rise : r.names.Pairwise fun a b => ltT a b = true
  ends : ∀ m ∈ r.mems, m.role ∈ r.names ∧ m.of ∈ r.names
  mrise : r.mems.Pairwise fun a b => ltM a b = true
  noring : ¬ Cyc r.mems
structure RowsR (r : Rols) : Prop where
  names : ∀ n ∈ r.names, nameB n = true
  rise : r.names.Pairwise fun a b => ltT a b = true
  ends : ∀ m ∈ r.mems, m.role ∈ r.names ∧ m.of ∈ r.names
  mrise : r.mems.Pairwise fun a b => ltM a b = true
theorem rowsR_iff {r : Rols} : rowsR r = true ↔ RowsR r := by
  unfold rowsR
  rw [Bool.and_eq_true, all_rng, all_rng]
  constructor
  · rintro ⟨h1, h2⟩
    refine ⟨fun n hn => ?_, rise_pairs (lt := ltT) ltT_trans fun k hk h0 => ((nameAt_iff hk).1 (h1 k hk)).2 h0, fun m hm => ?_, rise_pairs (lt := ltM) ltM_trans fun k hk h0 => ((memAt_iff hk).1 (h2 k hk)).2 h0⟩
    · obtain ⟨k, hk, rfl⟩ := List.mem_iff_getElem.1 hn; exact ((nameAt_iff hk).1 (h1 k hk)).1
    · obtain ⟨k, hk, rfl⟩ := List.mem_iff_getElem.1 hm; exact ((memAt_iff hk).1 (h2 k hk)).1
  · rintro ⟨h1, h2, h3, h4⟩
    exact ⟨fun k hk => (nameAt_iff hk).2 ⟨h1 _ (List.getElem_mem hk), fun h0 => pairs_rise h2 k hk h0⟩, fun k hk => (memAt_iff hk).2 ⟨h3 _ (List.getElem_mem hk), fun h0 => pairs_rise h4 k hk h0⟩⟩
theorem noRing_iff {r : Rols} (h : RowsR r) : noRing r = true ↔ ¬ Cyc r.mems := by
  unfold noRing
  rw [List.all_eq_true]
  constructor
  · rintro g ⟨m, hm, hw⟩
    have := g m hm
    rw [Bool.not_eq_true'] at this
    have h2 : inB (reachL r m.of) m.role = true := inB_iff.2 (List.mem_filter.2 ⟨(h.ends m hm).1, wayB_iff.2 hw⟩)
    rw [h2] at this; cases this
  · intro g m hm
    rw [Bool.not_eq_true']
    cases h2 : inB (reachL r m.of) m.role with
    | false => rfl
    | true => exact absurd ⟨m, hm, wayB_iff.1 (List.mem_filter.1 (inB_iff.1 h2)).2⟩ g
theorem nodup_len {α : Type} [DecidableEq α] : ∀ {l m : List α}, l.Nodup → (∀ x ∈ l, x ∈ m) → l.length ≤ m.length
  | [], _, _, _ => Nat.zero_le _
  | x :: l, m, hn, hs => by
    obtain ⟨h1, h2⟩ := List.nodup_cons.1 hn
    have hx := hs x (List.mem_cons_self ..)
    have ih := nodup_len (l := l) (m := m.erase x) h2 fun y hy => (List.mem_erase_of_ne (fun e => h1 (by rw [← e]; exact hy))).2 (hs y (List.mem_cons_of_mem _ hy))
    have hlen := List.length_erase_of_mem hx
    have hpos : 0 < m.length := List.length_pos_of_mem hx
    rw [List.length_cons]
    omega
/-- Members that rise, each of two of so many names, are few. -/
theorem mems_few {r : Rols} (h : RowsR r) : r.mems.length ≤ r.names.length * r.names.length := by
  have hnd : r.mems.Nodup := h.mrise.imp fun {a b} hab e => by subst e; rw [ltM_irr] at hab; cases hab
  have hsub : ∀ m ∈ r.mems, m ∈ (r.names.map fun a => r.names.map fun b => (⟨a, b⟩ : Mem)).flatten := fun m hm => by
    obtain ⟨h1, h2⟩ := h.ends m hm
    exact List.mem_flatten.2 ⟨_, List.mem_map.2 ⟨m.role, h1, rfl⟩, List.mem_map.2 ⟨m.of, h2, rfl⟩⟩
  have hlen : (r.names.map fun a => r.names.map fun b => (⟨a, b⟩ : Mem)).flatten.length = r.names.length * r.names.length := by
    rw [List.length_flatten, List.map_map]
    have : ∀ (l : List ByteArray) (n : Nat), (l.map ((List.length : List Mem → Nat) ∘ fun a => r.names.map fun b => (⟨a, b⟩ : Mem))).sum = l.length * r.names.length := fun l n => by
      induction l with
      | nil => simp
      | cons a l ih => rw [List.map_cons, List.sum_cons, ih, List.length_cons, Nat.succ_mul]; simp; omega
    exact this _ 0
  have := nodup_len hnd hsub
  omega
theorem rightR_iff {r : Rols} : rightR r = true ↔ RightR r := by
  unfold rightR
  simp only [Bool.and_eq_true, decide_eq_true_eq, rowsR_iff]
  constructor
  · rintro ⟨⟨h1, h2, h3⟩, h4⟩
    exact ⟨h1, h3.names, h3.rise, h3.ends, h3.mrise, (noRing_iff h3).1 h4⟩
  · intro h
    have h3 : RowsR r := ⟨h.names, h.rise, h.ends, h.mrise⟩
    refine ⟨⟨h.few, ?_, h3⟩, (noRing_iff h3).2 h.noring⟩
    have := mems_few h3
    have := Nat.mul_le_mul h.few h.few
    omega
theorem RightR.rows {r : Rols} (h : RightR r) : RowsR r := ⟨h.names, h.rise, h.ends, h.mrise⟩
end Go.Proofs.Ytekhkmhpeefenaa
