/-
  Roles in memory; a map of marks.
-/
import Derived.Test.YtekhkmhpeefenaaRolM
import Derived.Test.YtekhkmhpeefenaaObjO
import Derived.Maps.OwnSet
namespace Go.Proofs.Ytekhkmhpeefenaa
set_option linter.unusedVariables false
open Go.RowKit Go.Sort
open Go.ChangeMaps Go.MapKept

def memP (x : List Value) (m : Mem) : Prop := x = [.string m.role, .string m.of]
def memQ : Elem Mem := fun _ _ => memP
theorem mem_stays : Stays memQ 2 := ⟨fun h _ _ => h, fun h => by rw [show _ = _ from h]; rfl, fun h u hu => by rw [show _ = _ from h] at hu; simp at hu; rcases hu with rfl | rfl <;> rfl⟩
def rolP (w : World) (S : Nat → Prop) (x : List Value) (r : Rols) : Prop :=
  ∃ vn vm, x = [vn, vm] ∧ Lst w S strP 1 vn r.names ∧ Lst w S memP 2 vm r.mems
section
variable {w w' : World} {S S' : Nat → Prop} {x : List Value}
theorem mems_keep {v : Value} {l : List Mem} (h : Lst w S memP 2 v l) (hS : ∀ k, S k → S' k) (hk : Keeps S w w') : Lst w' S' memP 2 v l := h.keep hS hk fun _ _ _ h => h
theorem rol_keep {r : Rols} (h : rolP w S x r) (hS : ∀ k, S k → S' k) (hk : Keeps S w w') : rolP w' S' x r := by
  obtain ⟨vs, vt, h1, h2, h3⟩ := h
  exact ⟨vs, vt, h1, strs_keep h2 hS hk, mems_keep h3 hS hk⟩
end
/-- Roles whose lists have at most N elements. -/
def smallR (N : Nat) (r : Rols) : Prop := r.names.length ≤ N ∧ r.mems.length ≤ N
/-- Texts that a machine can hold. -/
def shortR (r : Rols) : Prop := (∀ n ∈ r.names, n.size ≤ maxLen) ∧ ∀ m ∈ r.mems, m.role.size ≤ maxLen ∧ m.of.size ≤ maxLen

abbrev skey (x : ByteArray) : Lit := .string x.data.toList
theorem skey_ne {x y : ByteArray} (h : x ≠ y) : skey x ≠ skey y := fun e => by
  injection e with e
  apply h
  cases x; cases y
  congr 1
  exact Array.toList_inj.1 e
theorem skey_is (x : ByteArray) : WideAt.IsKeyLit (skey x) := trivial
section
variable {w w' : World} {b n : Nat} {c : Clr}
/-- Block b is a map of at most n marks, that tells of each text its colour. -/
def ClrMap (w : World) (b n : Nat) (c : Clr) : Prop := ∃ D : DataW Unit, w.ownsMap Try.prog 9 (plainElem Try.prog 67) b n D ∧ ∀ x, D.atKey (skey x) (.lit (.int .i64 0)) = .lit (.int .i64 (c x))
theorem ClrMap.new (w : World) : ClrMap (w.alloc (.map #[] 0)) w.heap.size 0 (fun _ => 0) := ⟨_, World.ownsMap_made w _ _ _, fun _ => rfl⟩
theorem ClrMap.lt (h : ClrMap w b n c) : b < w.heap.size := by obtain ⟨D, h, _⟩ := h; exact h.lt
theorem ClrMap.mono (h : ClrMap w b n c) {n' : Nat} (hn : n ≤ n') : ClrMap w b n' c := by obtain ⟨D, h, h2⟩ := h; exact ⟨D, h.mono hn, h2⟩
theorem ClrMap.keep (h : ClrMap w b n c) {S : Nat → Prop} (hk : Keeps S w w') (hs : S b) : ClrMap w' b n c := by
  obtain ⟨D, ⟨es, clock, hb, r⟩, h2⟩ := h
  exact ⟨D, ⟨es, clock, hk.row hb hs, r⟩, h2⟩
theorem ClrMap.look (h : ClrMap w b n c) {x : ByteArray} (hx : x.size ≤ maxLen) : (Instr.lookup 64 (.map (some b)) (.string x) false).run Try.prog w = .ok (.int .i64 (c x)) w := by
  obtain ⟨D, h, h2⟩ := h
  obtain ⟨i, hrun, hat, _⟩ := h.lookup_int (Maps.string_keyed Try.underlying9) Try.underlying64 Try.underlying67 (by kernel_rfl) (WideMaps.keyOf_string_mk Try.underlying9 hx)
  rw [h2 x] at hat
  injection hat with hat
  injection hat with _ hat
  rw [hat]
  exact hrun
theorem ClrMap.put (h : ClrMap w b n c) {x : ByteArray} (hx : x.size ≤ maxLen) (hn : n < maxLen) (i : Int) (hi : (Lit.int .i64 i).wf = true) :
    ∃ w', (Instr.mapUpdate 64 (.map (some b)) (.string x) (.int .i64 i)).run Try.prog w = .ok () w' ∧ ClrMap w' b (n + 1) (upd c x i) ∧ Keeps (· ≠ b) w w' := by
  obtain ⟨D, h, h2⟩ := h
  obtain ⟨w', hr, ho, ht⟩ := h.store (Maps.string_keyed Try.underlying9) Try.underlying64 hn (key := .string x) (val := .int .i64 i) (WideMaps.keyOf_string_mk Try.underlying9 hx) (plainElem_int Try.underlying67 hi)
  refine ⟨w', hr, ⟨_, ho, fun y => ?_⟩, Keeps.of_grown ht.grown (fun k hk => by cases hk; exact fun h => h rfl)⟩
  unfold upd
  by_cases e : y = x
  · subst e
    rw [if_pos rfl, Maps.atKey_put_same h.isMap (skey_is y)]
  · rw [if_neg e, Maps.atKey_put_other (skey_ne e), h2]
end
end Go.Proofs.Ytekhkmhpeefenaa
