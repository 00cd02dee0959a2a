/-
  The program's 'caught' and 'put', by contract.
-/
import Derived.Test.YtbhpbiimfcdgaaaGreatWireB4
import Derived.Defers
import Derived.Recover
import Derived.Laws.Pointers
namespace Go.Proofs.YtbhpbiimfcdgaaaGreat
open Go.RowKit
set_option linter.unusedVariables false

theorem set_cell {w : World} {b : Nat} {v : Value} (h : w.cell? ⟨b, 0, none⟩ = some v) (u : Value) : (w.setCell ⟨b, 0, none⟩ u).cell? ⟨b, 0, none⟩ = some u := by
  exact World.cell?_setCell_same _ _ _ h

-- the deferred closure of 'caught': entered by a panic with an error's number, and by a return
set_option maxRecDepth 100000 in
theorem catch_panicking (r : Nat) (x c : Int) (w : World) (hh : w.heap[r]? = some (.cells #[.int .i64 x] 35 (0, 0))) :
    CallsD Tryz.prog 66 #[.pointer (some ⟨r, 0, none⟩)] (.panicking [{ v := .iface 35 (.int .i64 c), recovered := false }]) w fun e u' w' =>
      e = .returned (.tuple #[]) ∧ u' = .panicking [{ v := .iface 35 (.int .i64 c), recovered := true }] ∧ w' = w.setCell ⟨r, 0, none⟩ (.int .i64 c) := by
  have hc : w.cell? ⟨r, 0, none⟩ = some (.int .i64 x) := by simpa using cell_of_row w r 0 _ _ _ hh
  have hz : w.frozen? ⟨r, 0, none⟩ = false := frozen_of_row w r 0 _ _ hh
  clear hh
  have hta : ∀ w : World, (Instr.typeAssert (.iface 35 (.int .i64 c)) 20 35 false).run Tryz.prog w = .ok (.int .i64 c) w := fun _ => by first | rfl | kernel_rfl
  refine callsD_of_wpS Tryz.func66 rfl fun c₀ cs hu => ?_
  apply wpS_seq
  apply wpS_region
  simp [wpOpsS, go_sem, recoverD, hu, Tryz.ntmps66, Exit.thenS]
  apply wpS_seq
  apply wpS_region
  simp [wpOpsS, go_sem, Exit.thenS]
  refine wpS_cond (t := true) (by simp [Act.eval, Array.replicate]) ?_
  simp only [if_true]
  apply wpS_region
  simp [wpOpsS, go_sem, hta, hc, hz, bodyPostS, results, Tryz.results66]

set_option maxRecDepth 100000 in
theorem catch_idle (p : Addr) (w : World) :
    CallsD Tryz.prog 66 #[.pointer (some p)] .returning w fun e u' w' => e = .returned (.tuple #[]) ∧ u' = .returning ∧ w' = w := by
  refine callsD_of_wpS Tryz.func66 rfl fun c₀ cs hu => ?_
  apply wpS_seq
  apply wpS_region
  simp [wpOpsS, go_sem, recoverD, hu, Tryz.ntmps66, Exit.thenS]
  apply wpS_seq
  apply wpS_region
  simp [wpOpsS, go_sem, Exit.thenS]
  refine wpS_cond (t := false) (by simp [Act.eval, Array.replicate]) ?_
  simp only [Bool.false_eq_true, if_false]
  refine wpS_of_wp (wp_skip ?_)
  have hm : ({ c₀ with mode := FrameMode.returning } : Frame) = c₀ := by cases c₀; simp only at hu; rw [hu]
  exact ⟨rfl, FrameMode.returning, by rw [hm], .tuple #[], results_none rfl _ _ _, rfl, rfl, rfl⟩

set_option maxRecDepth 100000 in
theorem caught_any (f : FuncId) (caps : Array Value) (w : World) (Pn : World → Prop) (Pe : Int → World → Prop) (hcf : ∀ w, (callFunc f caps).run Tryz.prog w = .ok (.enter f caps) w)
    (hdo : Calls Tryz.prog f caps (w.alloc (.cells #[.int .i64 0] 35)) fun e w' =>
      w'.heap[w.heap.size]? = some (.cells #[.int .i64 0] 35 (0, 0)) ∧ ((e = .returned (.tuple #[]) ∧ Pn w') ∨ (∃ c, e = died c ∧ Pe c w'))) :
    Calls Tryz.prog 28 #[.func (.func f) #[] caps] w fun e w'' =>
      ∃ w' c, e = .returned (.int .i64 c) ∧ ((c = 0 ∧ Pn w') ∨ Pe c w') ∧ w'' = w'.setCell ⟨w.heap.size, 0, none⟩ (.int .i64 c) := by
  have hmf : ∀ (fn : Fn) (first cap : Array Value) (w : World), (Instr.makeFunc fn first cap).run Tryz.prog w = .ok (.func fn first cap) w := fun _ _ _ _ => rfl
  have HDO := Lib.hid hdo; clear hdo
  go_enter_defers Tryz.func28, Tryz.ntmps28
  go_wp2_with fail
  refine HDO.out.mono ?_
  rintro e w1 ⟨hh, ⟨rfl, hP⟩ | ⟨c, rfl, hP⟩⟩
  · have hz : w1.frozen? ⟨w.heap.size, 0, none⟩ = false := frozen_of_row w1 _ 0 _ _ hh
    have hc : w1.cell? ⟨w.heap.size, 0, none⟩ = some (.int .i64 0) := by simpa using cell_of_row w1 _ 0 _ _ _ hh
    have HH := Lib.hid hh; clear hh
    go_wp2_with fail
    refine leaves_cons (f := 66) (args := #[.pointer (some ⟨w.heap.size, 0, none⟩)]) (by simp) (by simp [go_sem]) ?_
    refine (catch_idle _ _).mono ?_
    rintro e u' w'' ⟨rfl, rfl, rfl⟩
    have hc2 := set_cell hc (.int .i64 0)
    simp [Leaves, settle, results, Tryz.results28, go_sem]
    rw [hc2]
    exact ⟨_, rfl, w1, 0, rfl, .inl ⟨rfl, hP⟩, rfl⟩
  · refine leaves_cons (f := 66) (args := #[.pointer (some ⟨w.heap.size, 0, none⟩)]) (by simp) (by simp [go_sem]) ?_
    refine (catch_panicking w.heap.size 0 c w1 hh).mono ?_
    rintro e u' w'' ⟨rfl, rfl, rfl⟩
    have hc : w1.cell? ⟨w.heap.size, 0, none⟩ = some (.int .i64 0) := by simpa using cell_of_row w1 _ 0 _ _ _ hh
    have hc2 := set_cell hc (.int .i64 c)
    simp [Leaves, settle, results, Tryz.results28, go_sem]
    rw [hc2]
    exact ⟨_, rfl, w1, c, rfl, .inr hP, rfl⟩
end Go.Proofs.YtbhpbiimfcdgaaaGreat
