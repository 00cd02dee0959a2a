/-
  Layer 5's statements, walked: majorities; who has voted; what a majority has.
-/
import Derived.Test.YtdoieefkpafgcaaQuorS
import Derived.Test.YtdoieefkpafgcaaIntsLent
namespace Go.Proofs.Ytdoieefkpafgcaa
open Go.RowKit

set_option maxHeartbeats 1000000 in
theorem walk_majority (n : Int) (w : World) (hn : (Lit.int .i64 n).wf = true) :
    Calls Try.prog 3 #[.int .i64 n] w fun e w' => e = .returned (.bool true) ∧ Below w.heap.size w w' := by
  have hb := bounds_i64 hn
  clear hn
  have hbn : -9223372036854775808 ≤ n ∧ n ≤ 9223372036854775807 := by omega
  have HBN := Lib.hid hbn; clear hbn
  by_cases h : n < 1
  · have HM := Lib.hid (majP_no h)
    have H4 : Hid (majP 4 = 3) := Lib.hid (by decide)
    go_enter Try.func3, Try.ntmps3
    go_wp2_with fail
    refine (majority_any n w HBN.out).mono ?_
    rintro e w1 ⟨rfl, hb1⟩
    rw [HM.out]
    go_wp2_with fail
    refine (majority_any 4 w1 (by omega)).mono ?_
    rintro e w2 ⟨rfl, hb2⟩
    rw [H4.out]
    go_wp2
    go_ret
    exact ⟨rfl, hb1.trans (hb2.mono hb1.size)⟩
  · have HM := Lib.hid (majP_yes h)
    obtain ⟨m, hm⟩ : ∃ m, m = n / 2 + 1 := ⟨_, rfl⟩
    have hm1 : n - m < m := by omega
    have hm2 : ¬ n - (m - 1) < m - 1 := by omega
    have hm3 : 1 ≤ m := by omega
    have hm4 : m ≤ n := by omega
    rw [← hm] at HM
    have D1 := Lib.hid (decide_eq_true hm1)
    have D2 := Lib.hid (decide_eq_false hm2)
    clear hm hm1 hm2
    go_enter Try.func3, Try.ntmps3
    go_wp2_with fail
    refine (majority_any n w HBN.out).mono ?_
    rintro e w1 ⟨rfl, hb1⟩
    rw [HM.out]
    go_wp2_with fail
    refine (ref_majority_any n w1 HBN.out).mono ?_
    rintro e w2 ⟨rfl, rfl⟩
    rw [HM.out]
    have hmm : ((m : Int) == m) = true := by simp
    go_wp2_with fail
    refine (enough_any m n w1 (by omega) (by omega)).mono ?_
    rintro e w2 ⟨rfl, rfl⟩
    rw [D1.out]
    go_wp2_with fail
    refine (enough_any (m - 1) n w1 (by omega) (by omega)).mono ?_
    rintro e w2 ⟨rfl, rfl⟩
    rw [D2.out]
    go_wp2
    go_ret
    exact ⟨rfl, hb1⟩

set_option maxHeartbeats 1000000 in
theorem reached_shown (w : World) : Calls Try.prog 15 #[] w fun e w' => e = .returned (.bool true) ∧ Below w.heap.size w w' := by
  have r1 := rd_rowI w [1, 2, 3] 3 rfl
  have b1 := (Below.refl w.heap.size w).alloc (Nat.le_refl _) (.cells (ci [1, 2, 3]).toArray 3)
  have r2 := rd_rowI (w.alloc (.cells (ci [1, 2, 3]).toArray 3)) [2, 3] 3 rfl
  have r1' := (r1.alloc (by simp) (.cells (ci [2, 3]).toArray 3)).more (show w.heap.size + 1 ≤ w.heap.size + 1 + 1 by omega)
  have b2 := b1.alloc b1.size (.cells (ci [2, 3]).toArray 3)
  rw [World.size_alloc] at r2
  have hc := reached_any _ _ 3 3 2 2 (w.heap.size + 1 + 1) [1, 2, 3] [2, 3] _ rfl rfl r1' r2 (by simp) (by omega) (by omega)
  rw [show reachedP [1, 2, 3] [2, 3] = true from by decide] at hc
  have HC := Lib.hid hc; clear hc r1 r2 r1' b1
  go_enter Try.func15, Try.ntmps15
  go_wp2_with fail
  refine HC.out.mono ?_
  rintro e w1 ⟨rfl, hb1⟩
  have b3 := b2.trans (hb1.mono b2.size)
  clear HC b2 hb1
  have r1 := rd_rowI w1 [1, 2, 3, 4] 3 rfl
  have b4 := b3.alloc b3.size (.cells (ci [1, 2, 3, 4]).toArray 3)
  have r2 := rd_rowI (w1.alloc (.cells (ci [1, 2, 3, 4]).toArray 3)) [1, 2] 3 rfl
  have r1' := (r1.alloc (by simp) (.cells (ci [1, 2]).toArray 3)).more (show w1.heap.size + 1 ≤ w1.heap.size + 1 + 1 by omega)
  have b5 := b4.alloc b4.size (.cells (ci [1, 2]).toArray 3)
  rw [World.size_alloc] at r2
  have hc := reached_any _ _ 4 4 2 2 (w1.heap.size + 1 + 1) [1, 2, 3, 4] [1, 2] _ rfl rfl r1' r2 (by simp) (by omega) (by omega)
  rw [show reachedP [1, 2, 3, 4] [1, 2] = false from by decide] at hc
  have HC := Lib.hid hc; clear hc r1 r2 r1' b4
  go_wp2_with fail
  refine HC.out.mono ?_
  rintro e w2 ⟨rfl, hb2⟩
  go_wp2
  go_ret
  exact ⟨rfl, b5.trans (hb2.mono b5.size)⟩

theorem sure_513 {b : Int} (h : SureIs [5, 1, 3] b) : b = 3 := by
  have h3 : SureIs [5, 1, 3] 3 := by
    refine ⟨by decide, by decide, ?_⟩
    intro x hx
    simp at hx
    rcases hx with rfl | rfl | rfl <;> decide
  exact sure_one h h3

set_option maxHeartbeats 1000000 in
theorem sure_shown (w : World) : Calls Try.prog 19 #[] w fun e w' => e = .returned (.bool true) ∧ Below w.heap.size w w' := by
  have r1 := rd_rowI w [5, 1, 3] 3 rfl
  have b1 := (Below.refl w.heap.size w).alloc (Nat.le_refl _) (.cells (ci [5, 1, 3]).toArray 3)
  have hc := sure_any _ 3 3 (w.heap.size + 1) [5, 1, 3] _ rfl r1 (by simp) (by omega)
  have HC := Lib.hid hc; clear hc r1
  go_enter Try.func19, Try.ntmps19
  go_wp2_with fail
  refine HC.out.mono ?_
  rintro e w1 ⟨hb1, ⟨hx, rfl⟩ | ⟨v, hv, rfl⟩⟩
  · cases hx
  · obtain rfl := sure_513 hv
    clear hv
    go_wp2
    go_ret
    exact ⟨rfl, b1.trans (hb1.mono b1.size)⟩

set_option maxHeartbeats 2000000 in
theorem walk_reached (a : Option Addr) (n cap : Nat) (zs : List Int) (a2 : Option Addr) (n2 cap2 : Nat) (ys : List Int) (w : World) (hl : zs.length = n) (hr : Rd w w.heap.size a (ci zs)) 
    (hl2 : ys.length = n2) (hr2 : Rd w w.heap.size a2 (ci ys)) :
    Calls Try.prog 4 #[.slice a n cap, .slice a2 n2 cap2] w fun e w' => e = .returned (.bool true) ∧ Below w.heap.size w w' := by
  have HL := Lib.hid hl; clear hl
  have HL2 := Lib.hid hl2; clear hl2
  by_cases hlong : 300 < n
  · go_enter Try.func4, Try.ntmps4
    go_wp2_with fail
    go_ret
    exact ⟨rfl, Below.refl _ _⟩
  by_cases hlong2 : 300 < n2
  · go_enter Try.func4, Try.ntmps4
    go_wp2_with fail
    go_ret
    exact ⟨rfl, Below.refl _ _⟩
  go_enter Try.func4, Try.ntmps4
  go_wp2_with fail
  refine (lend_intsL a cap n _ zs w HL.out hr (Nat.le_refl _) (by omega)).mono ?_
  rintro e w1 ⟨rfl, L1⟩
  have hr2' := hr2.below L1.below (Nat.le_refl _)
  have hle := lend_intsL a2 cap2 n2 _ ys w1 HL2.out hr2' (by rw [L1.size]; omega) (by omega)
  rw [L1.size] at hle
  have HLE := Lib.hid hle; clear hle
  go_wp2_with fail
  refine HLE.out.mono ?_
  rintro e w2 ⟨rfl, L2⟩
  have hz1 := L1.size
  have hz2 := L2.size
  have hbl2 := L2.below
  have hrd2 := L2.rd
  have hk2 := L2.blk
  rw [hz1] at hz2 hbl2 hrd2 hk2
  have hrd1 := (L1.rd.below hbl2 (Nat.le_refl _)).more (show w.heap.size + 1 ≤ w.heap.size + 1 + 1 by omega)
  have hk1 := Lib.hid ((hbl2.block w.heap.size (by omega)).trans L1.blk)
  have HK2 := Lib.hid hk2; clear hk2
  have HZ2 := Lib.hid hz2
  have hb02 := L1.below.trans (hbl2.mono (by omega))
  clear L1 L2 HLE hz1 hz2 hr2'
  go_wp2_with fail
  refine (reached_any _ _ n _ n2 _ (w.heap.size + 1 + 1) zs ys w2 HL.out HL2.out hrd1 hrd2 (by rw [HZ2.out]; omega) (by omega) (by omega)).mono ?_
  rintro e w3 ⟨rfl, hb3⟩
  rw [HZ2.out] at hb3
  have hz3 : w.heap.size + 1 + 1 ≤ w3.heap.size := by have := hb3.size; rw [HZ2.out] at this; exact this
  have hb03 := hb02.trans (hb3.mono (by omega))
  have hk1' := Lib.hid ((hb3.block w.heap.size (by omega)).trans hk1.out)
  have hk2' := Lib.hid ((hb3.block (w.heap.size + 1) (by omega)).trans HK2.out)
  clear hrd1 hrd2 hk1 HK2
  generalize hrp : reachedP zs ys = rp at *
  have HRP := Lib.hid hrp; clear hrp
  go_wp2_with fail
  refine (back_intsL a cap n w.heap.size w.heap.size zs w3 HL.out (hr.below hb03 (Nat.le_refl _)) (by omega) hk1'.out).mono ?_
  rintro e w4 ⟨rfl, hb4, hot4⟩
  have hb04 := hb03.trans hb4
  have hk24 := Lib.hid ((hot4 (w.heap.size + 1) (by omega) (by omega)).trans hk2'.out)
  clear hot4
  go_wp2_with fail
  refine (back_intsL a2 cap2 n2 w.heap.size (w.heap.size + 1) ys w4 HL2.out (hr2.below hb04 (Nat.le_refl _)) (by omega) hk24.out).mono ?_
  rintro e w5 ⟨rfl, hb5, _⟩
  have hb05 := hb04.trans (hb5.mono (by omega))
  go_wp2_with fail
  refine (reached_shown w5).mono ?_
  rintro e w6 ⟨rfl, hb6⟩
  have hb06 := hb05.trans (hb6.mono hb05.size)
  go_wp2_with fail
  refine (ref_reached_any a a2 n cap n2 cap2 w.heap.size zs ys w6 HL.out HL2.out (hr.below hb06 (Nat.le_refl _)) (hr2.below hb06 (Nat.le_refl _)) (by omega) (by omega)).mono ?_
  rintro e w7 ⟨rfl, hb7⟩
  rw [HRP.out]
  have hrr : (rp == rp) = true := by simp
  go_wp2
  go_ret
  exact ⟨by simp, hb06.trans (hb7.mono hb06.size)⟩

set_option maxHeartbeats 2000000 in
theorem walk_sure (a : Option Addr) (n cap : Nat) (zs : List Int) (w : World) (hl : zs.length = n) (hr : Rd w w.heap.size a (ci zs)) :
    Calls Try.prog 5 #[.slice a n cap] w fun e w' => e = .returned (.bool true) ∧ Below w.heap.size w w' := by
  have HL := Lib.hid hl; clear hl
  by_cases hlong : 300 < n
  · go_enter Try.func5, Try.ntmps5
    go_wp2_with fail
    go_ret
    exact ⟨rfl, Below.refl _ _⟩
  go_enter Try.func5, Try.ntmps5
  go_wp2_with fail
  refine (lend_intsL a cap n _ zs w HL.out hr (Nat.le_refl _) (by omega)).mono ?_
  rintro e w1 ⟨rfl, L1⟩
  have hz1 := Lib.hid L1.size
  have hb1 := L1.below
  have hrd1 := L1.rd
  have hk1 := Lib.hid L1.blk
  clear L1
  go_wp2_with fail
  refine (sure_any _ n _ (w.heap.size + 1) zs w1 HL.out hrd1 (by rw [hz1.out]; omega) (by omega)).mono ?_
  intro e w2 hs2
  obtain ⟨hb2, hs2⟩ := hs2
  rw [hz1.out] at hb2
  have hz2 : w.heap.size + 1 ≤ w2.heap.size := by have := hb2.size; rw [hz1.out] at this; exact this
  have hb02 := hb1.trans (hb2.mono (by omega))
  have hk2 := Lib.hid ((hb2.block w.heap.size (by omega)).trans hk1.out)
  have hrs := ref_sure_any a n cap w.heap.size zs w2 HL.out (hr.below hb02 (Nat.le_refl _)) (by omega)
  have key : ∃ (v c : Int), e = .returned (.tuple #[.int .i64 v, .int .i64 c]) ∧ Calls Try.prog 18 #[.slice a n cap] w2 fun e w' => e = .returned (.tuple #[.int .i64 v, .int .i64 c]) ∧ Below w2.heap.size w2 w' := by
    rcases hs2 with ⟨hx, rfl⟩ | ⟨v, hv, rfl⟩
    · refine ⟨0, 1, rfl, hrs.mono ?_⟩
      rintro e w' ⟨hb, ⟨_, rfl⟩ | ⟨v, hv, rfl⟩⟩
      · exact ⟨rfl, hb⟩
      · have := hv.1; rw [hx] at this; cases this
    · refine ⟨v, 0, rfl, hrs.mono ?_⟩
      rintro e w' ⟨hb, ⟨hx, rfl⟩ | ⟨u, hu, rfl⟩⟩
      · have := hv.1; rw [hx] at this; cases this
      · rw [sure_one hu hv]; exact ⟨rfl, hb⟩
  obtain ⟨v, c, rfl, hc⟩ := key
  have HC := Lib.hid hc
  clear hs2 hrs hc hrd1
  go_wp2_with fail
  refine HC.out.mono ?_
  rintro e w3 ⟨rfl, hb3⟩
  have hb03 := hb02.trans (hb3.mono hb02.size)
  have hk3 := Lib.hid ((hb3.block w.heap.size (by omega)).trans hk2.out)
  go_wp2_with fail
  refine (back_intsL a cap n w.heap.size w.heap.size zs w3 HL.out (hr.below hb03 (Nat.le_refl _)) (by omega) hk3.out).mono ?_
  rintro e w4 ⟨rfl, hb4, _⟩
  have hb04 := hb03.trans hb4
  go_wp2_with fail
  refine (sure_shown w4).mono ?_
  rintro e w5 ⟨rfl, hb5⟩
  have h1 : (v == v) = true := by simp
  have h2 : (c == c) = true := by simp
  go_wp2
  go_ret
  exact ⟨by simp, hb04.trans (hb5.mono hb04.size)⟩
end Go.Proofs.Ytdoieefkpafgcaa
