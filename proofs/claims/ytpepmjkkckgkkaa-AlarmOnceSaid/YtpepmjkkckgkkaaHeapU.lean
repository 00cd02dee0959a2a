/-
  container/heap's up and down over a queue of the program's own: whatever the queue is, by what its Less and Swap do.
-/
import Derived.Test.YtpepmjkkckgkkaaHeapM
import Derived.Test.YtpepmjkkckgkkaaMem
import Derived.Test.YtpepmjkkckgkkaaProg
import Derived.IntWalk
import Derived.BigQuiet
import Derived.Deep.QuietTactic
namespace Go.Proofs.Ytpepmjkkckgkkaa
open Go.RowKit

/-- What a queue does: Q says in which worlds the queue at an address holds a list; T says what a call may turn. -/
structure Does (a : Addr) (Q : World → List Due → Prop) (T : World → World → Prop) (B : World → Due → Value → Prop) : Prop where
  refl : ∀ w, T w w
  trans : ∀ {w w1 w2}, T w w1 → T w1 w2 → T w w2
  less : ∀ w L (i j : Nat), Q w L → i < L.length → j < L.length → Calls Try.prog 45 #[.pointer (some a), .int .i64 i, .int .i64 j] w fun e w' => e = .returned (.bool (decide (¬ lq (at_ L j) (at_ L i)))) ∧ Q w' L ∧ T w w'
  swap : ∀ w L (i j : Nat), Q w L → i < L.length → j < L.length → Calls Try.prog 48 #[.pointer (some a), .int .i64 i, .int .i64 j] w fun e w' => e = .returned (.tuple #[]) ∧ Q w' (sw L i j) ∧ T w w'
  len : ∀ w L, Q w L → Calls Try.prog 25 #[.pointer (some a)] w fun e w' => e = .returned (.int .i64 (L.length : Int)) ∧ Q w' L ∧ T w w'
  push : ∀ w L x v, Q w L → B w x v → L.length ≤ 100000 → (∀ y ∈ L, y.2 ≠ x.2) → Calls Try.prog 47 #[.pointer (some a), v] w fun e w' => e = .returned (.tuple #[]) ∧ Q w' (L ++ [x]) ∧ T w w'
  pop : ∀ w L x, Q w (L ++ [x]) → Calls Try.prog 46 #[.pointer (some a)] w fun e w' => ∃ v, e = .returned v ∧ B w' x v ∧ Q w' L ∧ T w w'
  short : ∀ w L, Q w L → L.length < 4611686018427387904

theorem method_less (n : Nat) (a : Addr) (w : World) : (method (n + 1) 54 (.pointer (some a)) "Less").run Try.prog w = .ok (45, .pointer (some a)) w := by kernel_rfl
theorem method_swap (n : Nat) (a : Addr) (w : World) : (method (n + 1) 54 (.pointer (some a)) "Swap").run Try.prog w = .ok (48, .pointer (some a)) w := by kernel_rfl
theorem method_len (n : Nat) (a : Addr) (w : World) : (method (n + 1) 54 (.pointer (some a)) "Len").run Try.prog w = .ok (25, .pointer (some a)) w := by kernel_rfl
theorem method_push (n : Nat) (a : Addr) (w : World) : (method (n + 1) 54 (.pointer (some a)) "Push").run Try.prog w = .ok (47, .pointer (some a)) w := by kernel_rfl
theorem method_pop (n : Nat) (a : Addr) (w : World) : (method (n + 1) 54 (.pointer (some a)) "Pop").run Try.prog w = .ok (46, .pointer (some a)) w := by kernel_rfl

theorem Does.lessI {a : Addr} {Q : World → List Due → Prop} {T : World → World → Prop} {B : World → Due → Value → Prop} (D : Does a Q T B) (w : World) (L : List Due) (i j : Nat) {x y : Int} (hx : x = i) (hy : y = j) (hq : Q w L) (hi : i < L.length) (hj : j < L.length) :
    Calls Try.prog 45 #[.pointer (some a), .int .i64 x, .int .i64 y] w fun e w' => e = .returned (.bool (decide (¬ lq (at_ L j) (at_ L i)))) ∧ Q w' L ∧ T w w' := by
  subst hx; subst hy; exact D.less w L i j hq hi hj
theorem Does.swapI {a : Addr} {Q : World → List Due → Prop} {T : World → World → Prop} {B : World → Due → Value → Prop} (D : Does a Q T B) (w : World) (L : List Due) (i j : Nat) {x y : Int} (hx : x = i) (hy : y = j) (hq : Q w L) (hi : i < L.length) (hj : j < L.length) :
    Calls Try.prog 48 #[.pointer (some a), .int .i64 x, .int .i64 y] w fun e w' => e = .returned (.tuple #[]) ∧ Q w' (sw L i j) ∧ T w w' := by
  subst hx; subst hy; exact D.swap w L i j hq hi hj

set_option maxHeartbeats 1000000 in
theorem up_any {a : Addr} {Q : World → List Due → Prop} {T : World → World → Prop} {B : World → Due → Value → Prop} (D : Does a Q T B) (w : World) (L : List Due) (n j : Nat) (hq : Q w L) (hn : n ≤ L.length) (hj : j < n) (hu : UpAt L n j) :
    Calls Try.prog 26 #[.iface 54 (.pointer (some a)), .int .i64 j] w fun e w' => e = .returned (.tuple #[]) ∧ ∃ L', Q w' L' ∧ L'.Perm L ∧ Heap L' n ∧ (∀ k, n ≤ k → at_ L' k = at_ L k) ∧ T w w' := by
  have hs := D.short w L hq
  have HD := Lib.hid D; clear D
  have HU := Lib.hid hu; clear hu
  have mL := fun n w => method_less n a w
  have mS := fun n w => method_swap n a w
  go_enter Try.func26, Try.ntmps26
  go_wp2_with fail
  go_loopw [1] (fun x wr => ∃ (i : Nat) (L1 : List Due), x = .int .i64 i ∧ i < n ∧ L1.length = L.length ∧ Hid (UpAt L1 n i ∧ Q wr L1 ∧ L1.Perm L ∧ (∀ k, n ≤ k → at_ L1 k = at_ L k) ∧ T w wr)) (fun x _ => (intOf x).toNat)
  case atStart => exact ⟨j, L, rfl, hj, rfl, Lib.hid ⟨HU.out, hq, .refl _, fun _ _ => rfl, HD.out.refl _⟩⟩
  case round =>
    obtain ⟨i, L1, rfl, hi, hl, hr⟩ := hrel
    have HL := Lib.hid hl; clear hl
    by_cases h0 : i = 0
    · have h00 : ((i : Int) - 1).tdiv 2 = (i : Int) := by subst h0; decide
      have H0 := Lib.hid h0; clear h0
      go_wp2_with fail
      refine bodyPost_end (results_none rfl _ _ _) rfl ?_
      obtain ⟨r1, r2, r3, r4, r5⟩ := hr.out
      exact ⟨rfl, L1, r2, r3, up_done r1 (.inl H0.out), r4, r5⟩
    obtain ⟨p, hpe⟩ : ∃ p, (i - 1) / 2 = p := ⟨_, rfl⟩
    have hp : ((i : Int) - 1) / 2 = (p : Int) := by omega
    have hpi : ¬ (p : Int) = (i : Int) := by omega
    have HPE := Lib.hid hpe; clear hpe
    have HPI := Lib.hid (show p < i by have := HPE.out; omega)
    by_cases hle : lq (at_ L1 p) (at_ L1 i)
    · go_wp2_with fail
      refine (HD.out.less wr L1 i p hr.out.2.1 (by have := HL.out; omega) (by have := HL.out; have := HPI.out; omega)).mono ?_
      rintro e w1 ⟨rfl, hq1, ht1⟩
      rw [decide_eq_false (by simpa using hle)]
      go_wp2_with fail
      refine bodyPost_end (results_none rfl _ _ _) rfl ?_
      obtain ⟨r1, r2, r3, r4, r5⟩ := hr.out
      exact ⟨rfl, L1, hq1, r3, up_done r1 (.inr (by rw [HPE.out]; exact hle)), r4, HD.out.trans r5 ht1⟩
    · go_wp2_with fail
      refine (HD.out.less wr L1 i p hr.out.2.1 (by have := HL.out; omega) (by have := HL.out; have := HPI.out; omega)).mono ?_
      rintro e w1 ⟨rfl, hq1, ht1⟩
      rw [decide_eq_true hle]
      go_wp2_with fail
      refine (HD.out.swap w1 L1 p i hq1 (by have := HL.out; have := HPI.out; omega) (by have := HL.out; omega)).mono ?_
      rintro e w2 ⟨rfl, hq2, ht2⟩
      go_wp2_with fail
      go_roundw
      case rel =>
        obtain ⟨r1, r2, r3, r4, r5⟩ := hr.out
        have lp : p < L1.length := by have := HL.out; have := HPI.out; omega
        have li : i < L1.length := by have := HL.out; omega
        refine ⟨p, sw L1 p i, rfl, by have := HPI.out; omega, by rw [length_sw]; exact HL.out, Lib.hid ⟨?_, hq2, (sw_perm lp li).trans r3, fun k hk => ?_, HD.out.trans (HD.out.trans r5 ht1) ht2⟩⟩
        · have := up_step (by have := HL.out; omega) r1 (by omega) hi (by rw [HPE.out]; exact hle)
          rw [HPE.out] at this
          exact this
        · rw [at_sw lp li, if_neg (by omega), if_neg (by have := HPI.out; omega)]
          exact r4 k hk
      case measure => have := HPI.out; simp [intOf]; omega

def DownPost (Q : World → List Due → Prop) (T : World → World → Prop) (w : World) (L : List Due) (n i0 : Nat) (e : Ending) (w' : World) : Prop :=
  ∃ (b : Bool) (L' : List Due), e = .returned (.bool b) ∧ Q w' L' ∧ L'.Perm L ∧ ((b = true ∧ Heap L' n) ∨ (b = false ∧ UpAt L' n i0)) ∧ (∀ k, n ≤ k → at_ L' k = at_ L k) ∧ T w w'

/-- What holds at the head of a round on the way down. -/
structure DownRel (Q : World → List Due → Prop) (T : World → World → Prop) (w : World) (L : List Due) (n i0 i : Nat) (L1 : List Due) (wr : World) : Prop where
  at_ : DownAt L1 n i0 i
  holds : Q wr L1
  perm : L1.Perm L
  kept : ∀ k, n ≤ k → Go.Proofs.Ytpepmjkkckgkkaa.at_ L1 k = Go.Proofs.Ytpepmjkkckgkkaa.at_ L k
  turned : T w wr
theorem DownRel.done {Q : World → List Due → Prop} {T : World → World → Prop} {w : World} {L : List Due} {n i0 i : Nat} {L1 : List Due} {wr w' : World} (h : DownRel Q T w L n i0 i L1 wr) (hq : Q w' L1) (ht : T w w')
    (hc : ∀ k, 0 < k → k < n → (k - 1) / 2 = i → Edge L1 k) {b : Bool} (hb : b = decide (i0 < i)) : DownPost Q T w L n i0 (.returned (.bool b)) w' := by
  refine ⟨b, L1, rfl, hq, h.perm, ?_, h.kept, ht⟩
  have hle := h.at_.1
  by_cases he : i = i0
  · subst he
    exact .inr ⟨by simp [hb], down_kept h.at_ hc⟩
  · exact .inl ⟨by rw [hb]; simp; omega, down_done h.at_ hc he⟩
theorem DownRel.next {Q : World → List Due → Prop} {T : World → World → Prop} {w : World} {L : List Due} {n i0 i j : Nat} {L1 : List Due} {wr w' : World} (h : DownRel Q T w L n i0 i L1 wr) (hn : n ≤ L1.length) (hq : Q w' (sw L1 i j)) (ht : T w w') (hj : j < n)
    (hji : j = 2 * i + 1 ∨ j = 2 * i + 2) (hmin : ∀ k, 0 < k → k < n → (k - 1) / 2 = i → lq (Go.Proofs.Ytpepmjkkckgkkaa.at_ L1 j) (Go.Proofs.Ytpepmjkkckgkkaa.at_ L1 k)) (hlt : ¬ lq (Go.Proofs.Ytpepmjkkckgkkaa.at_ L1 i) (Go.Proofs.Ytpepmjkkckgkkaa.at_ L1 j)) : DownRel Q T w L n i0 j (sw L1 i j) w' := by
  have li : i < L1.length := by omega
  have lj : j < L1.length := by omega
  refine ⟨down_step hn h.at_ hj hji hmin hlt, hq, (sw_perm li lj).trans h.perm, fun k hk => ?_, ht⟩
  rw [at_sw li lj, if_neg (by omega), if_neg (by omega)]
  exact h.kept k hk

set_option maxHeartbeats 2000000 in
theorem down_any {a : Addr} {Q : World → List Due → Prop} {T : World → World → Prop} {B : World → Due → Value → Prop} (D : Does a Q T B) (w : World) (L : List Due) (n i0 : Nat) (hq : Q w L) (hn : n ≤ L.length) (hi0 : i0 ≤ L.length) (hu : Hole L n i0) :
    Calls Try.prog 27 #[.iface 54 (.pointer (some a)), .int .i64 i0, .int .i64 n] w (DownPost Q T w L n i0) := by
  have hs := D.short w L hq
  have HD := Lib.hid D; clear D
  have HU := Lib.hid hu; clear hu
  have mL := fun n w => method_less n a w
  have mS := fun n w => method_swap n a w
  go_enter Try.func27, Try.ntmps27
  go_wp2_with fail
  go_loopw [7] (fun x wr => ∃ (i : Nat) (L1 : List Due), x = .int .i64 i ∧ i ≤ L.length ∧ L1.length = L.length ∧ Hid (DownRel Q T w L n i0 i L1 wr)) (fun x _ => L.length - (intOf x).toNat)
  case atStart => exact ⟨i0, L, rfl, hi0, rfl, Lib.hid ⟨down_start HU.out, hq, .refl _, fun _ _ => rfl, HD.out.refl _⟩⟩
  case round =>
    obtain ⟨i, L1, rfl, hi, hl, hr⟩ := hrel
    have HL := Lib.hid hl; clear hl
    by_cases h1 : n ≤ 2 * i + 1
    · go_wp2_with fail
      go_ret
      exact hr.out.done hr.out.holds hr.out.turned (down_end h1) (by simp)
    by_cases h2 : n ≤ 2 * i + 2
    · by_cases hle : lq (at_ L1 i) (at_ L1 (2 * i + 1))
      · go_wp2_with fail
        refine (HD.out.lessI wr L1 (2 * i + 1) i (by omega) rfl hr.out.holds (by have := HL.out; omega) (by have := HL.out; omega)).mono ?_
        rintro e w2 ⟨rfl, hq2, ht2⟩
        rw [decide_eq_false (by simpa using hle)]
        go_wp2_with fail
        go_ret
        exact hr.out.done hq2 (HD.out.trans hr.out.turned ht2) (down_stop (least_left (.inl (by omega))) hle) (by simp)
      · go_wp2_with fail
        refine (HD.out.lessI wr L1 (2 * i + 1) i (by omega) rfl hr.out.holds (by have := HL.out; omega) (by have := HL.out; omega)).mono ?_
        rintro e w2 ⟨rfl, hq2, ht2⟩
        rw [decide_eq_true hle]
        go_wp2_with fail
        refine (HD.out.swapI w2 L1 i (2 * i + 1) rfl (by omega) hq2 (by have := HL.out; omega) (by have := HL.out; omega)).mono ?_
        rintro e w3 ⟨rfl, hq3, ht3⟩
        go_wp2_with fail
        go_roundw
        case rel => exact ⟨2 * i + 1, sw L1 i (2 * i + 1), by go_num, by omega, by rw [length_sw]; exact HL.out, Lib.hid (hr.out.next (by have := HL.out; omega) hq3 (HD.out.trans (HD.out.trans hr.out.turned ht2) ht3) (by omega) (.inl (by omega)) (least_left (.inl (by omega))) hle)⟩
        case measure => simp [intOf]; omega
    by_cases hb : lq (at_ L1 (2 * i + 1)) (at_ L1 (2 * i + 2))
    · by_cases hle : lq (at_ L1 i) (at_ L1 (2 * i + 1))
      · go_wp2_with fail
        refine (HD.out.lessI wr L1 (2 * i + 2) (2 * i + 1) (by omega) (by omega) hr.out.holds (by have := HL.out; omega) (by have := HL.out; omega)).mono ?_
        rintro e w1 ⟨rfl, hq1, ht1⟩
        rw [decide_eq_false (by simpa using hb)]
        go_wp2_with fail
        refine (HD.out.lessI w1 L1 (2 * i + 1) i (by omega) rfl hq1 (by have := HL.out; omega) (by have := HL.out; omega)).mono ?_
        rintro e w2 ⟨rfl, hq2, ht2⟩
        rw [decide_eq_false (by simpa using hle)]
        go_wp2_with fail
        go_ret
        exact hr.out.done hq2 (HD.out.trans (HD.out.trans hr.out.turned ht1) ht2) (down_stop (least_left (.inr hb)) hle) (by simp)
      · go_wp2_with fail
        refine (HD.out.lessI wr L1 (2 * i + 2) (2 * i + 1) (by omega) (by omega) hr.out.holds (by have := HL.out; omega) (by have := HL.out; omega)).mono ?_
        rintro e w1 ⟨rfl, hq1, ht1⟩
        rw [decide_eq_false (by simpa using hb)]
        go_wp2_with fail
        refine (HD.out.lessI w1 L1 (2 * i + 1) i (by omega) rfl hq1 (by have := HL.out; omega) (by have := HL.out; omega)).mono ?_
        rintro e w2 ⟨rfl, hq2, ht2⟩
        rw [decide_eq_true hle]
        go_wp2_with fail
        refine (HD.out.swapI w2 L1 i (2 * i + 1) rfl (by omega) hq2 (by have := HL.out; omega) (by have := HL.out; omega)).mono ?_
        rintro e w3 ⟨rfl, hq3, ht3⟩
        go_wp2_with fail
        go_roundw
        case rel => exact ⟨2 * i + 1, sw L1 i (2 * i + 1), by go_num, by omega, by rw [length_sw]; exact HL.out, Lib.hid (hr.out.next (by have := HL.out; omega) hq3 (HD.out.trans (HD.out.trans (HD.out.trans hr.out.turned ht1) ht2) ht3) (by omega) (.inl (by omega)) (least_left (.inr hb)) hle)⟩
        case measure => simp [intOf]; omega
    · by_cases hle : lq (at_ L1 i) (at_ L1 (2 * i + 2))
      · go_wp2_with fail
        refine (HD.out.lessI wr L1 (2 * i + 2) (2 * i + 1) (by omega) (by omega) hr.out.holds (by have := HL.out; omega) (by have := HL.out; omega)).mono ?_
        rintro e w1 ⟨rfl, hq1, ht1⟩
        rw [decide_eq_true hb]
        go_wp2_with fail
        refine (HD.out.lessI w1 L1 (2 * i + 2) i (by omega) rfl hq1 (by have := HL.out; omega) (by have := HL.out; omega)).mono ?_
        rintro e w2 ⟨rfl, hq2, ht2⟩
        rw [decide_eq_false (by simpa using hle)]
        go_wp2_with fail
        go_ret
        exact hr.out.done hq2 (HD.out.trans (HD.out.trans hr.out.turned ht1) ht2) (down_stop (least_right (lq_of_not hb)) hle) (by simp)
      · go_wp2_with fail
        refine (HD.out.lessI wr L1 (2 * i + 2) (2 * i + 1) (by omega) (by omega) hr.out.holds (by have := HL.out; omega) (by have := HL.out; omega)).mono ?_
        rintro e w1 ⟨rfl, hq1, ht1⟩
        rw [decide_eq_true hb]
        go_wp2_with fail
        refine (HD.out.lessI w1 L1 (2 * i + 2) i (by omega) rfl hq1 (by have := HL.out; omega) (by have := HL.out; omega)).mono ?_
        rintro e w2 ⟨rfl, hq2, ht2⟩
        rw [decide_eq_true hle]
        go_wp2_with fail
        refine (HD.out.swapI w2 L1 i (2 * i + 2) rfl (by omega) hq2 (by have := HL.out; omega) (by have := HL.out; omega)).mono ?_
        rintro e w3 ⟨rfl, hq3, ht3⟩
        go_wp2_with fail
        go_roundw
        case rel => exact ⟨2 * i + 2, sw L1 i (2 * i + 2), by go_num, by omega, by rw [length_sw]; exact HL.out, Lib.hid (hr.out.next (by have := HL.out; omega) hq3 (HD.out.trans (HD.out.trans (HD.out.trans hr.out.turned ht1) ht2) ht3) (by omega) (.inr (by omega)) (least_right (lq_of_not hb)) hle)⟩
        case measure => simp [intOf]; omega
end Go.Proofs.Ytpepmjkkckgkkaa
