/-
  The document's Out, by contract; what is shared by its Put of all things.
-/
import Derived.Test.YtbhpbiimfcdgaaaGreatWireLa
import Derived.Test.YtbhpbiimfcdgaaaGreatWireB1
import Derived.BigQuiet
import Derived.Deep.QuietTactic
namespace Go.Proofs.YtbhpbiimfcdgaaaGreat
open Go.RowKit
set_option linter.unusedVariables false

theorem out_bad (p : Nat) (S : Nat → Prop) (xs : List UInt8) (E : Int) (w : World) (hL : La w S p xs E) (hE : ¬ E = 0) :
    Calls Tryz.prog 20 #[.pointer (some ⟨p, 0, none⟩)] w fun e w' => e = .returned (.tuple #[.slice none 0 0, .int .i64 E]) ∧ ∃ n, w' = w.drewN n := by
  obtain ⟨v, c0, c1, f0, f1, hown⟩ := hL.open_
  go_enter Tryz.func20, Tryz.ntmps20
  go_wp2_with fail
  go_quiet (fail)
  go_wp2
  go_ret2
  exact ⟨rfl, _, rfl⟩
theorem out_ok (p : Nat) (v : Value) (w : World) (c0 : w.cell? ⟨p, 0, none⟩ = some v) (c1 : w.cell? ⟨p, 1, none⟩ = some (.int .i64 0)) :
    Calls Tryz.prog 20 #[.pointer (some ⟨p, 0, none⟩)] w fun e w' => e = .returned (.tuple #[v, .int .i64 0]) ∧ w = w' := by
  go_enter Tryz.func20, Tryz.ntmps20
  go_wp2_with fail
  go_ret2
  exact ⟨rfl, rfl⟩
/-- The document's writer is new. -/
theorem la_new (w : World) (ox : Obj) : La ((w.alloc ox).alloc (.cells #[.slice none 0 0, .int .i64 0] 58)) (But (w.heap.size + 2) (w.heap.size + 1)) (w.heap.size + 1) [] 0 :=
  ⟨fun k hk => by have := hk.1; simp; omega, fun h => h.2 rfl, _, heap_alloc2_new w _ _, World.ownsRow_nil _ _ _ _, fun k hk => by cases hk⟩
theorem la_row {w : World} {n p : Nat} {xs : List UInt8} {E : Int} {m : Nat} (h : La w (But m p) p xs E) (hn : n ≤ m) (hnp : n ≤ p) :
    ∃ v, w.cell? ⟨p, 0, none⟩ = some v ∧ w.cell? ⟨p, 1, none⟩ = some (.int .i64 E) ∧ w.ownsRow n 5 1 v xs.length (cb xs) := by
  obtain ⟨h1, h2, v, h3, h4, h5⟩ := h
  refine ⟨v, by simpa using cell_of_row _ p 0 _ _ _ h3, by simpa using cell_of_row _ p 1 _ _ _ h3, h4.1, ?_⟩
  rcases h4.2 with h | ⟨g, cap, cur, rfl, a1, a2, a3⟩
  · exact .inl h
  · have hg := h5 g rfl
    have hg2 : n ≤ g := by
      rcases Nat.lt_or_ge g n with hlt | hge
      · exact absurd ⟨by omega, by omega⟩ hg.1
      · exact hge
    exact .inr ⟨g, cap, cur, rfl, hg2, a2, a3⟩
theorem la_below {w w' : World} {o1 o2 : Obj} (h : Keeps (But (w.heap.size + 2) (w.heap.size + 1)) ((w.alloc o1).alloc o2) w') : Below w.heap.size w w' :=
  (((Keeps.refl (S := (· < w.heap.size))).alloc o1).alloc o2 |>.trans (h.mono fun k hk => ⟨by omega, by omega⟩)).below (Nat.le_refl _) fun _ h => h
end Go.Proofs.YtbhpbiimfcdgaaaGreat
