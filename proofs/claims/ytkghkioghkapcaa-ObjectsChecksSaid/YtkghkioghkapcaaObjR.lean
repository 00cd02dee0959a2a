/-
  Objects in memory: how slices and structs read as rows, columns, rules, tables.
-/
import Derived.Test.YtkghkioghkapcaaObjM
import Derived.Test.YtkghkioghkapcaaWireW
import Derived.Test.YtkghkioghkapcaaSetsM
import Derived.Shelf.SlSortCmp.QuietGrown
import Derived.Test.YtkghkioghkapcaaProg
namespace Go.Proofs.Ytkghkioghkapcaa
open Go.RowKit Go.Sort

theorem mixed_ok : Try.prog.follows .mixedOrders = true := by kernel_rfl
/-- Only draws, and new blocks behind. -/
def Gr (w w' : World) : Prop := ∃ (q : Nat) (os : Array Obj), w' = grow (w.drewN q) os
theorem Gr.refl (w : World) : Gr w w := ⟨0, #[], by rw [grow_empty]; rfl⟩
theorem Gr.trans {a b c : World} (h : Gr a b) (g : Gr b c) : Gr a c := by
  obtain ⟨q, os, rfl⟩ := h
  obtain ⟨q', os', rfl⟩ := g
  exact ⟨q + q', os ++ os', by show grow (grow ((a.drewN q).drewN q') os) os' = _; rw [grow_grow, World.drewN_drewN]⟩
theorem Gr.alloc (w : World) (o : Obj) : Gr w (w.alloc o) := ⟨0, #[o], alloc_eq_grow w o⟩
theorem Gr.drewN (w : World) (n : Nat) : Gr w (w.drewN n) := ⟨n, #[], by rw [grow_empty]⟩
theorem Gr.grown (w : World) (n : Nat) (os : Array Obj) : Gr w (grow (w.drewN n) os) := ⟨n, os, rfl⟩
theorem Gr.below {w w' : World} (h : Gr w w') : Below w.heap.size w w' := by
  obtain ⟨q, os, rfl⟩ := h
  exact ⟨rfl, rfl, rfl, by rw [size_grow]; exact Nat.le_add_right _ _, fun k hk => heap_grow_old (w.drewN q) os hk⟩
theorem Gr.keeps {w w' : World} (h : Gr w w') {S : Nat → Prop} (hS : ∀ k, S k → k < w.heap.size) : Keeps S w w' := Keeps.of_below h.below hS

section
variable {α : Type} {w w' : World} {S S' : Nat → Prop}
/-- The slice v reads as the row l, whose elements have sz cells each. -/
def Lst (w : World) (S : Nat → Prop) (P : List Value → α → Prop) (sz : Nat) (v : Value) (l : List α) : Prop :=
  ∃ a cap xss, v = .slice a l.length cap ∧ l.length ≤ cap ∧ cap ≤ maxLen ∧ RdT w S a sz xss ∧ xss.length = l.length ∧ ∀ (i : Nat) x y, xss[i]? = some x → l[i]? = some y → P x y
theorem Lst.keep {P Q : List Value → α → Prop} {sz : Nat} {v : Value} {l : List α} (h : Lst w S P sz v l) (hS : ∀ k, S k → S' k) (hk : Keeps S w w') (hP : ∀ x y, y ∈ l → P x y → Q x y) : Lst w' S' Q sz v l := by
  obtain ⟨a, cap, xss, h1, h2, h3, h4, h5, h6⟩ := h
  exact ⟨a, cap, xss, h1, h2, h3, h4.keep hS hk, h5, fun i x y hx hy => hP x y (List.mem_of_getElem? hy) (h6 i x y hx hy)⟩
theorem Lst.form {P : List Value → α → Prop} {sz : Nat} {v : Value} {l : List α} (h : Lst w S P sz v l) : ∃ a cap, v = .slice a l.length cap ∧ l.length ≤ cap ∧ cap ≤ maxLen := by
  obtain ⟨a, cap, _, h1, h2, h3, _⟩ := h
  exact ⟨a, cap, h1, h2, h3⟩
theorem Lst.at {P : List Value → α → Prop} {sz : Nat} {a : Option Addr} {n cap : Nat} {l : List α} (h : Lst w S P sz (.slice a n cap) l) {k : Nat} (hk : k < l.length) :
    ∃ b o x, a = some ⟨b, o, none⟩ ∧ S b ∧ P x l[k] ∧ ∀ j v, x[j]? = some v → w.cell? ⟨b, o + k * sz + j, none⟩ = some v := by
  obtain ⟨a', cap', xss, h1, h2, h3, h4, h5, h6⟩ := h
  simp only [Value.slice.injEq] at h1
  obtain ⟨rfl, _, rfl⟩ := h1
  rcases h4 with rfl | ⟨b, o, rfl, hb, hc⟩
  · simp at h5; omega
  · have hx : xss[k]? = some (xss[k]'(by omega)) := List.getElem?_eq_getElem (by omega)
    exact ⟨b, o, _, rfl, hb, h6 k _ _ hx (List.getElem?_eq_getElem hk), fun j v hv => hc k _ hx j v hv⟩
theorem Lst.len {P : List Value → α → Prop} {sz : Nat} {a : Option Addr} {n cap : Nat} {l : List α} (h : Lst w S P sz (.slice a n cap) l) : l.length = n ∧ n ≤ cap ∧ cap ≤ maxLen := by
  obtain ⟨a', cap', xss, h1, h2, h3, _⟩ := h
  simp only [Value.slice.injEq] at h1
  obtain ⟨_, rfl, rfl⟩ := h1
  exact ⟨rfl, h2, h3⟩
end

def strP (x : List Value) (s : ByteArray) : Prop := x = [.string s]
def colP (x : List Value) (c : Col) : Prop := x = [.string c.name, .int .i64 c.kind, .bool c.null]
def schP (x : List Value) (s : Sch) : Prop := x = [.string s.name, .string s.owner]
def rulP (w : World) (S : Nat → Prop) (x : List Value) (r : Rul) : Prop :=
  ∃ v, x = [.string r.name, .int .i64 r.kind, v, .int .i64 r.low, .int .i64 r.high, .string r.schema, .string r.table, .string r.key] ∧ Lst w S strP 1 v r.cols
def tabP (w : World) (S : Nat → Prop) (x : List Value) (t : Tab) : Prop :=
  ∃ vc vr, x = [.string t.schema, .string t.name, .string t.owner, vc, vr] ∧ Lst w S colP 3 vc t.cols ∧ Lst w S (rulP w S) 8 vr t.rules
def objP (w : World) (S : Nat → Prop) (x : List Value) (o : Objs) : Prop :=
  ∃ vs vt, x = [vs, vt] ∧ Lst w S schP 2 vs o.schemas ∧ Lst w S (tabP w S) 5 vt o.tables
section
variable {w w' : World} {S S' : Nat → Prop} {x : List Value}
theorem strs_keep {v : Value} {l : List ByteArray} (h : Lst w S strP 1 v l) (hS : ∀ k, S k → S' k) (hk : Keeps S w w') : Lst w' S' strP 1 v l := h.keep hS hk fun _ _ _ h => h
theorem cols_keep {v : Value} {l : List Col} (h : Lst w S colP 3 v l) (hS : ∀ k, S k → S' k) (hk : Keeps S w w') : Lst w' S' colP 3 v l := h.keep hS hk fun _ _ _ h => h
theorem schs_keep {v : Value} {l : List Sch} (h : Lst w S schP 2 v l) (hS : ∀ k, S k → S' k) (hk : Keeps S w w') : Lst w' S' schP 2 v l := h.keep hS hk fun _ _ _ h => h
theorem rul_keep {r : Rul} (h : rulP w S x r) (hS : ∀ k, S k → S' k) (hk : Keeps S w w') : rulP w' S' x r := by
  obtain ⟨v, h1, h2⟩ := h
  exact ⟨v, h1, strs_keep h2 hS hk⟩
theorem ruls_keep {v : Value} {l : List Rul} (h : Lst w S (rulP w S) 8 v l) (hS : ∀ k, S k → S' k) (hk : Keeps S w w') : Lst w' S' (rulP w' S') 8 v l := h.keep hS hk fun _ _ _ h => rul_keep h hS hk
theorem tab_keep {t : Tab} (h : tabP w S x t) (hS : ∀ k, S k → S' k) (hk : Keeps S w w') : tabP w' S' x t := by
  obtain ⟨vc, vr, h1, h2, h3⟩ := h
  exact ⟨vc, vr, h1, cols_keep h2 hS hk, ruls_keep h3 hS hk⟩
theorem tabs_keep {v : Value} {l : List Tab} (h : Lst w S (tabP w S) 5 v l) (hS : ∀ k, S k → S' k) (hk : Keeps S w w') : Lst w' S' (tabP w' S') 5 v l := h.keep hS hk fun _ _ _ h => tab_keep h hS hk
theorem obj_keep {o : Objs} (h : objP w S x o) (hS : ∀ k, S k → S' k) (hk : Keeps S w w') : objP w' S' x o := by
  obtain ⟨vs, vt, h1, h2, h3⟩ := h
  exact ⟨vs, vt, h1, schs_keep h2 hS hk, tabs_keep h3 hS hk⟩
end
end Go.Proofs.Ytkghkioghkapcaa
