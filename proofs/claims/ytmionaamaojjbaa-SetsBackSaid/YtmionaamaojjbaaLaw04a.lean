/-
  Layer 4's statements, walked: what is a set, what is the same.
-/
import Derived.Test.YtmionaamaojjbaaSetsF
import Derived.Laws.OwnMore
namespace Go.Proofs.Ytmionaamaojjbaa
open Go.RowKit

set_option maxHeartbeats 1000000 in
theorem with_shown (w : World) : Calls Try.prog 21 #[] w fun e w' => e = .returned (.bool true) ∧ Below w.heap.size w w' := by
  have hrow := rd_row w (ci [1, 5]) 3 rfl
  have hb := (Below.refl w.heap.size w).alloc (Nat.le_refl _) (.cells (ci [1, 5]).toArray 3)
  have hE : withE [1, 5] 3 = 0 := by decide
  have hV : withV [1, 5] 3 = [1, 3, 5] := by decide
  have hc := with_any (some ⟨w.heap.size, 0, none⟩) 2 2 (w.heap.size + 1) [1, 5] 3 _ rfl hrow (by simp) (by unfold maxLen; omega)
  rw [hE, hV] at hc
  have HC := Lib.hid hc; clear hc hrow hE hV
  go_enter Try.func21, Try.ntmps21
  go_wp2_with fail
  refine HC.out.mono ?_
  rintro e w1 ⟨o, rfl, hown, hb1⟩
  obtain ⟨a1, c1, rfl, hr1⟩ := rd_own hown
  have hbb := hb.trans (hb1.mono hb.size)
  have hb2 := hbb.alloc hbb.size (.cells (ci [1, 3, 5]).toArray 3)
  have hrow := rd_row w1 (ci [1, 3, 5]) 3 rfl
  go_wp2_with fail
  refine (ints_same a1 _ 3 c1 3 _ _ _ [1, 3, 5] [1, 3, 5] _ rfl rfl (hr1.alloc (Nat.le_refl _) _) hrow (by unfold maxLen; omega) (by unfold maxLen; omega)).mono ?_
  rintro e w3 ⟨rfl, hb3⟩
  rw [show decide ([1, 3, 5] = ([1, 3, 5] : List Int)) = true from by decide]
  go_wp2
  go_ret
  exact ⟨rfl, hb2.trans (hb3.mono hb2.size)⟩

set_option maxHeartbeats 1000000 in
theorem without_shown (w : World) : Calls Try.prog 24 #[] w fun e w' => e = .returned (.bool true) ∧ Below w.heap.size w w' := by
  have hrow := rd_row w (ci [1, 5]) 3 rfl
  have hb := (Below.refl w.heap.size w).alloc (Nat.le_refl _) (.cells (ci [1, 5]).toArray 3)
  have hE : withoutE [1, 5] = 0 := by decide
  have hV : withoutV [1, 5] 5 = [1] := by decide
  have hc := without_any (some ⟨w.heap.size, 0, none⟩) 2 2 (w.heap.size + 1) [1, 5] 5 _ rfl hrow (by simp) (by unfold maxLen; omega)
  rw [hE, hV] at hc
  have HC := Lib.hid hc; clear hc hrow hE hV
  go_enter Try.func24, Try.ntmps24
  go_wp2_with fail
  refine HC.out.mono ?_
  rintro e w1 ⟨o, rfl, hown, hb1⟩
  obtain ⟨a1, c1, rfl, hr1⟩ := rd_own hown
  have hbb := hb.trans (hb1.mono hb.size)
  have hb2 := hbb.alloc hbb.size (.cells (ci [1]).toArray 3)
  have hrow := rd_row w1 (ci [1]) 3 rfl
  go_wp2_with fail
  refine (ints_same a1 _ 1 c1 1 _ _ _ [1] [1] _ rfl rfl (hr1.alloc (Nat.le_refl _) _) hrow (by unfold maxLen; omega) (by unfold maxLen; omega)).mono ?_
  rintro e w3 ⟨rfl, hb3⟩
  rw [show decide ([1] = ([1] : List Int)) = true from by decide]
  go_wp2
  go_ret
  exact ⟨rfl, hb2.trans (hb3.mono hb2.size)⟩

set_option maxHeartbeats 1000000 in
theorem walk_is (a : Option Addr) (n cap : Nat) (zs : List Int) (v : Int) (w : World) (hl : zs.length = n) (hr : Rd w w.heap.size a (ci zs)) (hc : n ≤ cap) (hm : cap ≤ maxLen) :
    Calls Try.prog 3 #[.slice a n cap, .int .i64 v] w fun e w' => e = .returned (.bool true) ∧ Below w.heap.size w w' := by
  have M1 := Lib.hid (Nat.le_trans hc hm)
  have HL := Lib.hid hl; clear hl
  unfold maxLen at hm
  by_cases hlong : 1000 < n
  · go_enter Try.func3, Try.ntmps3
    go_wp2_with fail
    go_ret
    exact ⟨rfl, Below.refl _ _⟩
  · go_enter Try.func3, Try.ntmps3
    go_wp2_with fail
    refine (is_any none 0 0 0 [] w rfl Rd.nil (by unfold maxLen; omega)).mono ?_
    rintro e w1 ⟨rfl, hb1⟩
    rw [show isS [] = true from by decide]
    have hrow := rd_row w1 (ci [2, 1]) 3 rfl
    have hb2 := hb1.alloc hb1.size (.cells (ci [2, 1]).toArray 3)
    go_wp2_with fail
    refine (is_any (some ⟨w1.heap.size, 0, none⟩) 2 _ _ [2, 1] _ rfl hrow (by unfold maxLen; omega)).mono ?_
    rintro e w3 ⟨rfl, hb3⟩
    rw [show isS [2, 1] = false from by decide]
    have hbb3 := hb2.trans (hb3.mono hb2.size)
    clear hrow
    go_wp2_with fail
    refine (is_any a n cap _ zs _ HL.out (hr.below hbb3 (Nat.le_refl _)) M1.out).mono ?_
    rintro e w4 ⟨rfl, hb4⟩
    have hbb4 := hbb3.trans (hb4.mono hbb3.size)
    go_wp2_with fail
    refine (ref_is_any a n cap _ zs _ HL.out (hr.below hbb4 (Nat.le_refl _)) M1.out).mono ?_
    rintro e w5 ⟨rfl, hb5⟩
    have hbb5 := hbb4.trans (hb5.mono hbb4.size)
    generalize isS zs = b at *
    have hbe : (b == b) = true := by simp
    go_wp2_with fail
    refine (has_any a n cap _ zs v _ HL.out (hr.below hbb5 (Nat.le_refl _)) M1.out).mono ?_
    rintro e w' ⟨rfl, rfl⟩
    go_wp2_with fail
    refine (ref_has_any a n cap _ zs v _ HL.out (hr.below hbb5 (Nat.le_refl _)) M1.out).mono ?_
    rintro e w' ⟨rfl, rfl⟩
    generalize decide (v ∈ zs) = b2 at *
    go_wp2
    go_ret
    exact ⟨by simp, hbb5⟩

set_option maxHeartbeats 1000000 in
theorem walk_same (a : Option Addr) (n cap : Nat) (zs : List Int) (a2 : Option Addr) (n2 cap2 : Nat) (ys : List Int) (w : World) (hl : zs.length = n) (hr : Rd w w.heap.size a (ci zs)) (hc : n ≤ cap) (hm : cap ≤ maxLen)
    (hl2 : ys.length = n2) (hr2 : Rd w w.heap.size a2 (ci ys)) (hc2 : n2 ≤ cap2) (hm2 : cap2 ≤ maxLen) :
    Calls Try.prog 4 #[.slice a n cap, .slice a2 n2 cap2] w fun e w' => e = .returned (.bool true) ∧ Below w.heap.size w w' := by
  have M1 := Lib.hid (Nat.le_trans hc hm)
  have M2 := Lib.hid (Nat.le_trans hc2 hm2)
  have HL := Lib.hid hl; clear hl
  have HL2 := Lib.hid hl2; clear hl2
  unfold maxLen at hm hm2
  by_cases hlong : 1000 < n
  · go_enter Try.func4, Try.ntmps4
    go_wp2_with fail
    go_ret
    exact ⟨rfl, Below.refl _ _⟩
  · by_cases hlong2 : 1000 < n2
    · go_enter Try.func4, Try.ntmps4
      go_wp2_with fail
      go_ret
      exact ⟨rfl, Below.refl _ _⟩
    · have hb1 := (Below.refl w.heap.size w).alloc (Nat.le_refl _) (.cells #[] 3)
      go_enter Try.func4, Try.ntmps4
      go_wp2_with fail
      refine (same_sets none _ 0 0 0 _ 0 0 [] [] _ rfl rfl Rd.nil Rd.nil (by unfold maxLen; omega) (by unfold maxLen; omega)).mono ?_
      rintro e w2 ⟨rfl, hb2⟩
      rw [show decide ([] = ([] : List Int)) = true from by decide]
      have hbb2 := hb1.trans (hb2.mono hb1.size)
      go_wp2_with fail
      refine (same_sets a a2 n cap n2 cap2 _ _ zs ys _ HL.out HL2.out (hr.below hbb2 (Nat.le_refl _)) (hr2.below hbb2 (Nat.le_refl _)) M1.out M2.out).mono ?_
      rintro e w3 ⟨rfl, hb3⟩
      have hbb3 := hbb2.trans (hb3.mono hbb2.size)
      go_wp2_with fail
      refine (ref_same_any a a2 n cap n2 cap2 _ _ zs ys _ HL.out HL2.out (hr.below hbb3 (Nat.le_refl _)) (hr2.below hbb3 (Nat.le_refl _)) M1.out M2.out).mono ?_
      rintro e w4 ⟨rfl, hb4⟩
      have hbb4 := hbb3.trans (hb4.mono hbb3.size)
      generalize decide (zs = ys) = b at *
      have hbe : (b == b) = true := by simp
      go_wp2_with fail
      refine (same_sets a a n cap n cap _ _ zs zs _ HL.out HL.out (hr.below hbb4 (Nat.le_refl _)) (hr.below hbb4 (Nat.le_refl _)) M1.out M1.out).mono ?_
      rintro e w5 ⟨rfl, hb5⟩
      have hzz := Lib.hid (show decide (zs = zs) = true by simp)
      rw [hzz.out]
      go_wp2
      go_ret
      exact ⟨rfl, hbb4.trans (hb5.mono hbb4.size)⟩
end Go.Proofs.Ytmionaamaojjbaa
