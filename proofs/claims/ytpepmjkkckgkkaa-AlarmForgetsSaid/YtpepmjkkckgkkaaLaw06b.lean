/-
  Layer 6's statement on no clock, walked, over any clock.
-/
import Derived.Test.YtpepmjkkckgkkaaAlarmT
namespace Go.Proofs.Ytpepmjkkckgkkaa
open Go.RowKit

/-- What no clock answers. -/
structure NilTicks : Prop where
  set : ∀ w (id t : Int), Calls Try.prog 8 #[.pointer none, .int .i64 id, .int .i64 t] w fun e w' => e = .returned (.int .i64 3) ∧ Below w.heap.size w w'
  clear : ∀ w (id : Int), Calls Try.prog 10 #[.pointer none, .int .i64 id] w fun e w' => e = .returned (.int .i64 3) ∧ Below w.heap.size w w'
  next : ∀ w, Calls Try.prog 15 #[.pointer none] w fun e w' => e = .returned (.tuple #[.int .i64 0, .int .i64 0, .int .i64 3]) ∧ Below w.heap.size w w'
  due : ∀ w (now : Int), Calls Try.prog 12 #[.pointer none, .int .i64 now] w fun e w' => (∃ a c, e = .returned (.slice a 0 c)) ∧ Below w.heap.size w w'
  len : ∀ w, Calls Try.prog 17 #[.pointer none] w fun e w' => e = .returned (.int .i64 0) ∧ Below w.heap.size w w'

set_option maxHeartbeats 1000000 in
theorem walk_nil {K : World → (Nat → Prop) → Addr → List Due → Prop} (Tk : Ticks K) (Nk : NilTicks) (id t : Int) (w : World) :
    Calls Try.prog 6 #[.int .i64 id, .int .i64 t] w fun e w' => e = .returned (.bool true) ∧ Below w.heap.size w w' := by
  have HA := Lib.hid (awake_shown Tk); clear Tk
  have HN := Lib.hid Nk; clear Nk
  go_enter Try.func6, Try.ntmps6
  go_wp2_with fail
  refine (HN.out.next w).mono ?_
  rintro e w1 ⟨rfl, b1⟩
  go_wp2_with fail
  refine (HA.out w1).mono ?_
  rintro e w2 ⟨rfl, h2⟩
  have b2 := b1.trans (h2.mono b1.size); clear b1 h2
  go_wp2_with fail
  refine (HN.out.set w2 id t).mono ?_
  rintro e w3 ⟨rfl, h3⟩
  have b3 := b2.trans (h3.mono b2.size); clear b2 h3
  go_wp2_with fail
  refine (HN.out.clear w3 id).mono ?_
  rintro e w4 ⟨rfl, h4⟩
  have b4 := b3.trans (h4.mono b3.size); clear b3 h4
  go_wp2_with fail
  refine (HN.out.due w4 t).mono ?_
  rintro e w5 ⟨⟨a, c, rfl⟩, h5⟩
  have b5 := b4.trans (h5.mono b4.size); clear b4 h5
  go_wp2_with fail
  refine (HN.out.len w5).mono ?_
  rintro e w6 ⟨rfl, h6⟩
  have b6 := b5.trans (h6.mono b5.size); clear b5 h6
  go_wp2_with fail
  go_ret
  exact ⟨rfl, b6⟩
end Go.Proofs.Ytpepmjkkckgkkaa
