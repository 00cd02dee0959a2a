/-
  Layer 4's statements, walked: with a number, without it; both sets' numbers.
-/
import Derived.Test.YtmionaamaojjbaaLaw04a
import Derived.Deep.AppendLies
namespace Go.Proofs.Ytmionaamaojjbaa
open Go.RowKit

theorem lent_ints (w : World) (zs : List Int) {n : Nat} (hn : zs.length = n) :
    Rd (w.alloc (.cells (ci (zs ++ [-77])).toArray 3)) (w.heap.size + 1) (some ⟨w.heap.size, 0, none⟩) (ci zs) := by
  have h := (rd_row w (ci (zs ++ [-77])) 3 rfl).take n
  rw [ci_append, List.take_left' (by rw [length_ci, hn])] at h
  rw [ci_append]
  exact h
theorem length_withV (zs : List Int) (v : Int) : (withV zs v).length ≤ zs.length + 1 := by
  unfold withV
  split
  · exact length_ins_le _
  · simp
theorem length_withoutV (zs : List Int) (v : Int) : (withoutV zs v).length ≤ zs.length := by
  unfold withoutV
  split
  · exact length_dif _ _
  · simp

set_option maxHeartbeats 2000000 in
theorem walk_with (a : Option Addr) (n cap : Nat) (zs : List Int) (v : Int) (w : World) (hl : zs.length = n) (hr : Rd w w.heap.size a (ci zs)) (hc : n ≤ cap) (hm : cap ≤ maxLen) :
    Calls Try.prog 5 #[.slice a n cap, .int .i64 v] w fun e w' => e = .returned (.bool true) ∧ Below w.heap.size w w' := by
  have M1 := Lib.hid (Nat.le_trans hc hm)
  have HL := Lib.hid hl; clear hl
  unfold maxLen at hm
  by_cases hlong : 1000 < n
  · go_enter Try.func5, Try.ntmps5
    go_wp2_with fail
    go_ret
    exact ⟨rfl, Below.refl _ _⟩
  · have hlr := lent_ints w zs HL.out
    have hb0 := (Below.refl w.heap.size w).alloc (Nat.le_refl _) (.cells (ci (zs ++ [-77])).toArray 3)
    have hk0 := heap_alloc_new w (.cells (ci (zs ++ [-77])).toArray 3)
    have hz0 : (w.alloc (.cells (ci (zs ++ [-77])).toArray 3)).heap.size = w.heap.size + 1 := by simp
    go_enter Try.func5, Try.ntmps5
    go_wp2_with fail
    refine (lend_ints a cap n _ zs w HL.out hr (Nat.le_refl _) (by omega)).mono ?_
    rintro e w1 ⟨rfl, hw1⟩
    rw [hw1] at hlr hb0 hk0 hz0
    have HK0 := Lib.hid hk0
    have HZ0 := Lib.hid hz0
    clear hw1 hk0 hz0
    go_wp2_with fail
    refine (with_any _ n _ (w.heap.size + 1) zs v w1 HL.out hlr (by rw [HZ0.out]; omega) M1.out).mono ?_
    rintro e w2 ⟨o, rfl, hown, hb1⟩
    rw [HZ0.out] at hown hb1
    have hb01 := hb0.trans (hb1.mono (by omega))
    go_wp2_with fail
    refine (ref_with_any a n cap _ zs v _ HL.out (hr.below hb01 (Nat.le_refl _)) hb01.size M1.out).mono ?_
    rintro e w3 ⟨o3, rfl, hown3, hb3⟩
    have hown' := own_over hown hb3
    obtain ⟨a2, c2, rfl, hr2⟩ := rd_own hown'
    obtain ⟨a3, c3, rfl, hr3⟩ := rd_own hown3
    have hlen : (withV zs v).length ≤ 1017 := by have := length_withV zs v; have := HL.out; omega
    have hb13 := hb1.trans (hb3.mono (by have := hb1.size; rw [HZ0.out] at this; exact this))
    generalize withV zs v = V at *
    generalize withE zs v = E at *
    clear hown hown3
    go_wp2_with fail
    refine (ints_same a2 a3 _ c2 _ c3 _ _ V V w3 rfl rfl hr2 hr3 (by unfold maxLen; omega) (by unfold maxLen; omega)).mono ?_
    rintro e w4 ⟨rfl, hb4⟩
    have hVV := Lib.hid (show decide (V = V) = true by simp)
    rw [hVV.out]
    have hown4 := own_over hown' hb4
    have hb14 := hb13.trans (hb4.mono (by have := hb13.size; rw [HZ0.out] at this; exact this))
    clear hown' hr2 hr3
    go_wp2_with fail
    go_loopw [11] (fun i wr => ∃ (k : Nat) (ys : List Value), k ≤ V.length ∧ i = .int .i64 k ∧ wr.ownsRow (w.heap.size + 1) 3 1 (.slice a2 V.length c2) V.length ys ∧ Below (w.heap.size + 1) w1 wr) (fun i _ => V.length - (intOf i).toNat)
    case atStart => exact ⟨0, _, Nat.zero_le _, rfl, hown4, hb14⟩
    case round =>
      obtain ⟨k, ys, hk, rfl, hownr, hbr⟩ := hrel
      by_cases hlt : k < V.length
      · obtain ⟨g, cc, he, hg1, hg2⟩ := World.ownsRow.form hownr (by omega)
        cases he
        obtain ⟨y, hck⟩ : ∃ y, wr.cell? ⟨g, k, none⟩ = some y := ⟨_, (hownr.cellAt k (by omega)).trans (List.getElem?_eq_getElem (by have := hownr.1; omega))⟩
        have hfz := hownr.frozenAt k
        have hst := hownr.stored k (.int .i64 (-5))
        have hbs := hbr.setCell (p := ⟨g, k, none⟩) hg1 (.int .i64 (-5))
        have HST := Lib.hid hst.1
        clear hst
        go_wp2_with fail
        go_roundw
        case rel => exact ⟨k + 1, _, by omega, by go_num, HST.out, hbs⟩
        case measure => simp [intOf]; omega
      · have hbz := hbr.size
        rw [HZ0.out] at hbz
        have hkr := Lib.hid ((hbr.block w.heap.size (by omega)).trans HK0.out)
        have hbw := hb0.trans (hbr.mono (by omega))
        go_wp2_with fail
        refine (back_ints a cap n w.heap.size w.heap.size zs wr HL.out (hr.below hbw (Nat.le_refl _)) (by omega) hkr.out).mono ?_
        rintro e w5 ⟨rfl, w6, Y, hb6, hw5⟩
        have hb5 : Below w.heap.size w w5 := by rw [← hw5]; exact below_setRow (hbw.trans (hb6.mono hbw.size)) (Nat.le_refl _) _
        clear hw5
        go_wp2_with fail
        refine (with_shown w5).mono ?_
        rintro e w7 ⟨rfl, hb7⟩
        have hEE : (E == E) = true := by simp
        go_wp2
        go_ret
        exact ⟨by simp, hb5.trans (hb7.mono hb5.size)⟩

set_option maxHeartbeats 2000000 in
theorem walk_without (a : Option Addr) (n cap : Nat) (zs : List Int) (v : Int) (w : World) (hl : zs.length = n) (hr : Rd w w.heap.size a (ci zs)) (hc : n ≤ cap) (hm : cap ≤ maxLen) :
    Calls Try.prog 6 #[.slice a n cap, .int .i64 v] w fun e w' => e = .returned (.bool true) ∧ Below w.heap.size w w' := by
  have M1 := Lib.hid (Nat.le_trans hc hm)
  have HL := Lib.hid hl; clear hl
  unfold maxLen at hm
  by_cases hlong : 1000 < n
  · go_enter Try.func6, Try.ntmps6
    go_wp2_with fail
    go_ret
    exact ⟨rfl, Below.refl _ _⟩
  · have hlr := lent_ints w zs HL.out
    have hb0 := (Below.refl w.heap.size w).alloc (Nat.le_refl _) (.cells (ci (zs ++ [-77])).toArray 3)
    have hk0 := heap_alloc_new w (.cells (ci (zs ++ [-77])).toArray 3)
    have hz0 : (w.alloc (.cells (ci (zs ++ [-77])).toArray 3)).heap.size = w.heap.size + 1 := by simp
    go_enter Try.func6, Try.ntmps6
    go_wp2_with fail
    refine (lend_ints a cap n _ zs w HL.out hr (Nat.le_refl _) (by omega)).mono ?_
    rintro e w1 ⟨rfl, hw1⟩
    rw [hw1] at hlr hb0 hk0 hz0
    have HK0 := Lib.hid hk0
    have HZ0 := Lib.hid hz0
    clear hw1 hk0 hz0
    go_wp2_with fail
    refine (without_any _ n _ (w.heap.size + 1) zs v w1 HL.out hlr (by rw [HZ0.out]; omega) M1.out).mono ?_
    rintro e w2 ⟨o, rfl, hown, hb1⟩
    rw [HZ0.out] at hown hb1
    have hb01 := hb0.trans (hb1.mono (by omega))
    go_wp2_with fail
    refine (ref_without_any a n cap _ zs v _ HL.out (hr.below hb01 (Nat.le_refl _)) hb01.size M1.out).mono ?_
    rintro e w3 ⟨o3, rfl, hown3, hb3⟩
    have hown' := own_over hown hb3
    obtain ⟨a2, c2, rfl, hr2⟩ := rd_own hown'
    obtain ⟨a3, c3, rfl, hr3⟩ := rd_own hown3
    have hlen : (withoutV zs v).length ≤ 1017 := by have := length_withoutV zs v; have := HL.out; omega
    have hb13 := hb1.trans (hb3.mono (by have := hb1.size; rw [HZ0.out] at this; exact this))
    generalize withoutV zs v = V at *
    generalize withoutE zs = E at *
    clear hown hown3
    go_wp2_with fail
    refine (ints_same a2 a3 _ c2 _ c3 _ _ V V w3 rfl rfl hr2 hr3 (by unfold maxLen; omega) (by unfold maxLen; omega)).mono ?_
    rintro e w4 ⟨rfl, hb4⟩
    have hVV := Lib.hid (show decide (V = V) = true by simp)
    rw [hVV.out]
    have hown4 := own_over hown' hb4
    have hb14 := hb13.trans (hb4.mono (by have := hb13.size; rw [HZ0.out] at this; exact this))
    clear hown' hr2 hr3
    go_wp2_with fail
    go_loopw [11] (fun i wr => ∃ (k : Nat) (ys : List Value), k ≤ V.length ∧ i = .int .i64 k ∧ wr.ownsRow (w.heap.size + 1) 3 1 (.slice a2 V.length c2) V.length ys ∧ Below (w.heap.size + 1) w1 wr) (fun i _ => V.length - (intOf i).toNat)
    case atStart => exact ⟨0, _, Nat.zero_le _, rfl, hown4, hb14⟩
    case round =>
      obtain ⟨k, ys, hk, rfl, hownr, hbr⟩ := hrel
      by_cases hlt : k < V.length
      · obtain ⟨g, cc, he, hg1, hg2⟩ := World.ownsRow.form hownr (by omega)
        cases he
        obtain ⟨y, hck⟩ : ∃ y, wr.cell? ⟨g, k, none⟩ = some y := ⟨_, (hownr.cellAt k (by omega)).trans (List.getElem?_eq_getElem (by have := hownr.1; omega))⟩
        have hfz := hownr.frozenAt k
        have hst := hownr.stored k (.int .i64 (-5))
        have hbs := hbr.setCell (p := ⟨g, k, none⟩) hg1 (.int .i64 (-5))
        have HST := Lib.hid hst.1
        clear hst
        go_wp2_with fail
        go_roundw
        case rel => exact ⟨k + 1, _, by omega, by go_num, HST.out, hbs⟩
        case measure => simp [intOf]; omega
      · have hbz := hbr.size
        rw [HZ0.out] at hbz
        have hkr := Lib.hid ((hbr.block w.heap.size (by omega)).trans HK0.out)
        have hbw := hb0.trans (hbr.mono (by omega))
        go_wp2_with fail
        refine (back_ints a cap n w.heap.size w.heap.size zs wr HL.out (hr.below hbw (Nat.le_refl _)) (by omega) hkr.out).mono ?_
        rintro e w5 ⟨rfl, w6, Y, hb6, hw5⟩
        have hb5 : Below w.heap.size w w5 := by rw [← hw5]; exact below_setRow (hbw.trans (hb6.mono hbw.size)) (Nat.le_refl _) _
        clear hw5
        go_wp2_with fail
        refine (without_shown w5).mono ?_
        rintro e w7 ⟨rfl, hb7⟩
        have hEE : (E == E) = true := by simp
        go_wp2
        go_ret
        exact ⟨by simp, hb5.trans (hb7.mono hb5.size)⟩

end Go.Proofs.Ytmionaamaojjbaa
