/-
  Layer 4's statements, walked: two sets' numbers, all and common.
-/
import Derived.Test.YtmionaamaojjbaaLaw04b
namespace Go.Proofs.Ytmionaamaojjbaa
open Go.RowKit

theorem length_bothV (xs ys : List Int) : (bothV xs ys).length ≤ xs.length + ys.length := by
  unfold bothV
  split
  · exact length_uni_le _ _
  · simp
theorem length_commonV (xs ys : List Int) : (commonV xs ys).length ≤ xs.length := by
  unfold commonV
  split
  · exact length_com _ _
  · simp
theorem same_refl (V : List Int) : decide (V = V) = true := by simp

set_option maxRecDepth 100000 in
set_option maxHeartbeats 8000000 in
theorem walk_both (a : Option Addr) (n cap : Nat) (zs : List Int) (a2 : Option Addr) (n2 cap2 : Nat) (ys : List Int) (w : World) (hl : zs.length = n) (hr : Rd w w.heap.size a (ci zs)) (hc : n ≤ cap) (hm : cap ≤ maxLen)
    (hl2 : ys.length = n2) (hr2 : Rd w w.heap.size a2 (ci ys)) (hc2 : n2 ≤ cap2) (hm2 : cap2 ≤ maxLen) :
    Calls Try.prog 7 #[.slice a n cap, .slice a2 n2 cap2] w fun e w' => e = .returned (.bool true) ∧ Below w.heap.size w w' := by
  have M1 := Lib.hid (Nat.le_trans hc hm)
  have M2 := Lib.hid (Nat.le_trans hc2 hm2)
  have HL := Lib.hid hl; clear hl
  have HL2 := Lib.hid hl2; clear hl2
  unfold maxLen at hm hm2
  by_cases hlong : 1000 < n
  · go_enter Try.func7, Try.ntmps7
    go_wp2_with fail
    go_ret
    exact ⟨rfl, Below.refl _ _⟩
  by_cases hlong2 : 1000 < n2
  · go_enter Try.func7, Try.ntmps7
    go_wp2_with fail
    go_ret
    exact ⟨rfl, Below.refl _ _⟩
  have hlr := lent_ints w zs HL.out
  have hb0 := (Below.refl w.heap.size w).alloc (Nat.le_refl _) (.cells (ci (zs ++ [-77])).toArray 3)
  have hk0 := heap_alloc_new w (.cells (ci (zs ++ [-77])).toArray 3)
  have hz0 : (w.alloc (.cells (ci (zs ++ [-77])).toArray 3)).heap.size = w.heap.size + 1 := by simp
  go_enter Try.func7, Try.ntmps7
  go_wp2_with fail
  refine (lend_ints a cap n _ zs w HL.out hr (Nat.le_refl _) (by omega)).mono ?_
  rintro e w1 ⟨rfl, hw1⟩
  rw [hw1] at hlr hb0 hk0 hz0
  clear hw1
  have hlr2 := lent_ints w1 ys HL2.out
  have hb1 := (Below.refl w1.heap.size w1).alloc (Nat.le_refl _) (.cells (ci (ys ++ [-77])).toArray 3)
  have hk1 := heap_alloc_new w1 (.cells (ci (ys ++ [-77])).toArray 3)
  have hz1 : (w1.alloc (.cells (ci (ys ++ [-77])).toArray 3)).heap.size = w1.heap.size + 1 := by simp
  have hle := lend_ints a2 cap2 n2 _ ys w1 HL2.out (hr2.below hb0 (Nat.le_refl _)) (by omega) (by omega)
  rw [hz0] at hlr2 hb1 hk1 hz1 hle
  have hlr1 := hlr.below hb1 (Nat.le_refl _)
  have hk01 := (hb1.block w.heap.size (by omega)).trans hk0
  have hb01 := hb0.trans (hb1.mono (by omega))
  have HLE := Lib.hid hle
  clear hle hlr hk0 hz0 hb0 hb1
  go_wp2_with fail
  refine HLE.out.mono ?_
  rintro e w2 ⟨rfl, hw2⟩
  rw [hw2] at hlr2 hk1 hz1 hlr1 hk01 hb01
  have HK0 := Lib.hid hk01
  have HK1 := Lib.hid hk1
  have HZ := Lib.hid hz1
  have hlx := hlr1.more (show w.heap.size + 1 ≤ w.heap.size + 1 + 1 by omega)
  have hly := hlr2
  clear hw2 hk1 hz1 hlr1 hk01 HLE hlr2
  go_wp2_with fail
  refine (both_any _ _ n _ n2 _ (w.heap.size + 1 + 1) zs ys w2 HL.out HL2.out hlx hly (by rw [HZ.out]; omega) M1.out M2.out).mono ?_
  rintro e w3 ⟨oA, rfl, hownA, hb3⟩
  have hz23 := hb3.size
  rw [HZ.out] at hownA hb3 hz23
  go_wp2_with fail
  refine (common_any _ _ n _ n2 _ (w.heap.size + 1 + 1) zs ys w3 HL.out HL2.out (hlx.below hb3 (Nat.le_refl _)) (hly.below hb3 (Nat.le_refl _)) hz23 M1.out M2.out).mono ?_
  rintro e w4 ⟨oB, rfl, hownB, hb4⟩
  have hz34 := hb4.size
  clear hlx hly
  have hb24 := hb3.trans (hb4.mono hz23)
  have hb04 := hb01.trans (hb24.mono (by omega))
  have hownA4 := own_over hownA hb4
  have hAlt := fun g (h : oA.ownBlock = some g) => (World.ownsRow.lt hownA g h).2
  clear hownA
  go_wp2_with fail
  refine (ref_both_any a a2 n cap n2 cap2 _ zs ys w4 HL.out HL2.out (hr.below hb04 (Nat.le_refl _)) (hr2.below hb04 (Nat.le_refl _)) hb04.size M1.out M2.out).mono ?_
  rintro e w5 ⟨oC, rfl, hownC, hb5⟩
  have hb25 := hb24.trans (hb5.mono (by omega))
  have hb05 := hb01.trans (hb25.mono (by omega))
  go_wp2_with fail
  refine (ref_common_any a a2 n cap n2 cap2 _ zs ys w5 HL.out HL2.out (hr.below hb05 (Nat.le_refl _)) (hr2.below hb05 (Nat.le_refl _)) hb05.size M1.out M2.out).mono ?_
  rintro e w6 ⟨oD, rfl, hownD, hb6⟩
  have hz56 := hb6.size
  have hz45 := hb5.size
  have hb26 := hb25.trans (hb6.mono (by omega))
  have hownA6 := own_over (own_over hownA4 hb5) hb6
  have hownB6 := own_over (own_over hownB hb5) hb6
  have hownC6 := own_over hownC hb6
  have hlA := length_bothV zs ys
  have hlB := length_commonV zs ys
  rw [HL.out, HL2.out] at hlA
  rw [HL.out] at hlB
  generalize bothV zs ys = VA at *
  generalize commonV zs ys = VB at *
  generalize bothE zs ys = EA at *
  generalize commonE zs ys = EB at *
  clear hownA4 hownB hownC hb04 hb05 hb24 hb25
  obtain ⟨aA, cA, rfl, hrA⟩ := rd_own hownA6
  obtain ⟨aB, cB, rfl, hrB⟩ := rd_own hownB6
  obtain ⟨aC, cC, rfl, hrC⟩ := rd_own hownC6
  obtain ⟨aD, cD, rfl, hrD⟩ := rd_own hownD
  clear hownC6 hownD
  go_wp2_with fail
  refine (ints_same aA aC _ cA _ cC _ _ VA VA w6 rfl rfl hrA hrC (by unfold maxLen; omega) (by unfold maxLen; omega)).mono ?_
  rintro e w7 ⟨rfl, hb7⟩
  rw [same_refl]
  go_wp2_with fail
  refine (ints_same aB aD _ cB _ cD _ _ VB VB w7 rfl rfl (hrB.below hb7 (Nat.le_refl _)) (hrD.below hb7 (Nat.le_refl _)) (by unfold maxLen; omega) (by unfold maxLen; omega)).mono ?_
  rintro e w8 ⟨rfl, hb8⟩
  rw [same_refl]
  have hz67 := hb7.size
  have hz78 := hb8.size
  have hownA8 := own_over (own_over hownA6 hb7) hb8
  have hownB8 := own_over (own_over hownB6 hb7) hb8
  have hb28 := hb26.trans ((hb7.mono (by omega)).trans (hb8.mono (by omega)))
  clear hownA6 hownB6 hrA hrB hrC hrD hb3 hb4 hb5 hb6 hb7 hb8 hb26
  go_wp2_with fail
  go_loopw [16] (fun i wr => ∃ (k : Nat) (us : List Value), k ≤ VA.length ∧ i = .int .i64 k ∧ wr.ownsRow (w.heap.size + 1 + 1) 3 1 (.slice aA VA.length cA) VA.length us ∧ Hid (∀ k, w3.heap.size ≤ k → wr.heap[k]? = w8.heap[k]?) ∧ Below (w.heap.size + 1 + 1) w2 wr) (fun i _ => VA.length - (intOf i).toNat)
  case atStart => exact ⟨0, _, Nat.zero_le _, rfl, hownA8, Lib.hid (fun _ _ => rfl), hb28⟩
  case round =>
    obtain ⟨k, us, hk, rfl, hownr, hot, hbr⟩ := hrel
    by_cases hlt : k < VA.length
    · obtain ⟨g, cc, he, hg1, hg2⟩ := World.ownsRow.form hownr (by omega)
      cases he
      have hgl := hAlt g rfl
      obtain ⟨y, hck⟩ : ∃ y, wr.cell? ⟨g, k, none⟩ = some y := ⟨_, (hownr.cellAt k (by omega)).trans (List.getElem?_eq_getElem (by have := hownr.1; omega))⟩
      have hfz := hownr.frozenAt k
      have hst := hownr.stored k (.int .i64 (-5))
      have hbs := hbr.setCell (p := ⟨g, k, none⟩) hg1 (.int .i64 (-5))
      have HST := Lib.hid hst.1
      clear hst
      go_wp2_with fail
      go_roundw
      case rel => exact ⟨k + 1, _, by omega, by go_num, HST.out, Lib.hid (fun j hj => (Below.heap_setCell _ _ _ _ (by simp; omega)).trans (hot.out j hj)), hbs⟩
      case measure => simp [intOf]; omega
    · have hownB9 := own_kept hownB8 hot.out
      have hownB9' : wr.ownsRow (w.heap.size + 1 + 1) 3 1 (.slice aB VB.length cB) VB.length (ci VB) := World.ownsRow.mono hownB9 hz23
      clear hownB9 hownA8 hownB8 hownr hot hb28
      go_wp2_with fail
      go_loopw [17] (fun i wr => ∃ (k : Nat) (us : List Value), k ≤ VB.length ∧ i = .int .i64 k ∧ wr.ownsRow (w.heap.size + 1 + 1) 3 1 (.slice aB VB.length cB) VB.length us ∧ Below (w.heap.size + 1 + 1) w2 wr) (fun i _ => VB.length - (intOf i).toNat)
      case atStart => exact ⟨0, _, Nat.zero_le _, rfl, hownB9', hbr⟩
      case round =>
        clear hownB9' hbr
        obtain ⟨k, us, hk, rfl, hownr, hbr⟩ := hrel
        by_cases hlt : k < VB.length
        · obtain ⟨g, cc, he, hg1, hg2⟩ := World.ownsRow.form hownr (by omega)
          cases he
          obtain ⟨y, hck⟩ : ∃ y, wr.cell? ⟨g, k, none⟩ = some y := ⟨_, (hownr.cellAt k (by omega)).trans (List.getElem?_eq_getElem (by have := hownr.1; omega))⟩
          have hfz := hownr.frozenAt k
          have hst := hownr.stored k (.int .i64 (-5))
          have hbs := hbr.setCell (p := ⟨g, k, none⟩) hg1 (.int .i64 (-5))
          have HST := Lib.hid hst.1
          clear hst
          go_wp2_with fail
          go_roundw
          case rel => exact ⟨k + 1, _, by omega, by go_num, HST.out, hbs⟩
          case measure => simp [intOf]; omega
        · clear hownr
          have hbz := hbr.size
          rw [HZ.out] at hbz
          have r15 := rd_row wr (ci [1, 5]) 3 rfl
          have c1 := hbr.alloc (by omega) (.cells (ci [1, 5]).toArray 3)
          have r35 := rd_row (wr.alloc (.cells (ci [1, 5]).toArray 3)) (ci [3, 5]) 3 rfl
          have r15' := (r15.alloc (by simp) (.cells (ci [3, 5]).toArray 3)).more (show wr.heap.size + 1 ≤ wr.heap.size + 1 + 1 by omega)
          have c2 := c1.alloc (by simp; omega) (.cells (ci [3, 5]).toArray 3)
          rw [World.size_alloc] at r35
          have hd := both_any _ _ 2 2 2 2 (wr.heap.size + 1 + 1) [1, 5] [3, 5] _ rfl rfl r15' r35 (by simp) (by unfold maxLen; omega) (by unfold maxLen; omega)
          rw [show bothE [1, 5] [3, 5] = 0 from by decide, show bothV [1, 5] [3, 5] = [1, 3, 5] from by decide] at hd
          have HD := Lib.hid hd
          clear hd r15 r35 r15' c1
          go_wp2_with fail
          refine HD.out.mono ?_
          rintro e w9 ⟨o9, rfl, hown9, hb9⟩
          have c3 := c2.trans (hb9.mono (by simp; omega))
          clear HD c2
          have hz9 : w.heap.size + 1 + 1 ≤ w9.heap.size := by have := c3.size; rw [HZ.out] at this; exact this
          have r15 := rd_row w9 (ci [1, 5]) 3 rfl
          have c4 := c3.alloc hz9 (.cells (ci [1, 5]).toArray 3)
          have r35 := rd_row (w9.alloc (.cells (ci [1, 5]).toArray 3)) (ci [3, 5]) 3 rfl
          have r15' := (r15.alloc (by simp) (.cells (ci [3, 5]).toArray 3)).more (show w9.heap.size + 1 ≤ w9.heap.size + 1 + 1 by omega)
          have c5 := c4.alloc (by simp; omega) (.cells (ci [3, 5]).toArray 3)
          have hown9' := (hown9.alloc (.cells (ci [1, 5]).toArray 3)).alloc (.cells (ci [3, 5]).toArray 3)
          rw [World.size_alloc] at r35
          have hd := common_any _ _ 2 2 2 2 (w9.heap.size + 1 + 1) [1, 5] [3, 5] _ rfl rfl r15' r35 (by simp) (by unfold maxLen; omega) (by unfold maxLen; omega)
          rw [show commonE [1, 5] [3, 5] = 0 from by decide, show commonV [1, 5] [3, 5] = [5] from by decide] at hd
          have HD := Lib.hid hd
          clear hd r15 r35 r15' c4 hown9
          go_wp2_with fail
          refine HD.out.mono ?_
          rintro e w10 ⟨o10, rfl, hown10, hb10⟩
          have hown9 := own_over hown9' hb10
          have c6 := c5.trans (hb10.mono (by simp; omega))
          clear HD c5 hown9' c3
          have hz10 : w.heap.size + 1 + 1 ≤ w10.heap.size := by have := c6.size; rw [HZ.out] at this; exact this
          obtain ⟨a9, c9, rfl, hr9⟩ := rd_own hown9
          obtain ⟨a10, c10, rfl, hr10⟩ := rd_own hown10
          have r135 := rd_row w10 (ci [1, 3, 5]) 3 rfl
          have c7 := c6.alloc hz10 (.cells (ci [1, 3, 5]).toArray 3)
          clear hown9 hown10 hb9 hb10
          go_wp2_with fail
          refine (ints_same a9 _ 3 c9 3 _ _ _ [1, 3, 5] [1, 3, 5] _ rfl rfl (hr9.alloc (Nat.le_refl _) _) r135 (by unfold maxLen; omega) (by unfold maxLen; omega)).mono ?_
          rintro e w11 ⟨rfl, hb11⟩
          rw [same_refl]
          have c8 := c7.trans (hb11.mono (by simp; omega))
          have hz11 : w.heap.size + 1 + 1 ≤ w11.heap.size := by have := c8.size; rw [HZ.out] at this; exact this
          have r5 := rd_row w11 (ci [5]) 3 rfl
          have c9' := c8.alloc hz11 (.cells (ci [5]).toArray 3)
          have hr10' := ((hr10.alloc (Nat.le_refl _) (.cells (ci [1, 3, 5]).toArray 3)).below hb11 (by simp)).alloc (by have := hb11.size; simp at this; omega) (.cells (ci [5]).toArray 3)
          clear hr9 r135 hr10
          go_wp2_with fail
          refine (ints_same a10 _ 1 c10 1 _ _ _ [5] [5] _ rfl rfl hr10' r5 (by unfold maxLen; omega) (by unfold maxLen; omega)).mono ?_
          rintro e w12 ⟨rfl, hb12⟩
          rw [same_refl]
          have c10' := c9'.trans (hb12.mono (by simp; omega))
          have hz12 : w.heap.size + 1 + 1 ≤ w12.heap.size := by have := c10'.size; rw [HZ.out] at this; exact this
          have hkx := Lib.hid ((c10'.block w.heap.size (by omega)).trans HK0.out)
          have hky := Lib.hid ((c10'.block (w.heap.size + 1) (by omega)).trans HK1.out)
          have hbw := hb01.trans (c10'.mono (by omega))
          clear c6 c7 c8 c9' c10' hb11 hb12 hr10' r5
          go_wp2_with fail
          refine (back_ints a cap n w.heap.size w.heap.size zs w12 HL.out (hr.below hbw (Nat.le_refl _)) (by omega) hkx.out).mono ?_
          rintro e w13 ⟨rfl, u13, Y, hb13, hw13⟩
          have hb013 : Below w.heap.size w w13 := by rw [← hw13]; exact below_setRow (hbw.trans (hb13.mono hbw.size)) (Nat.le_refl _) _
          have hky13 : Hid (w13.heap[w.heap.size + 1]? = some (.cells (ci (ys ++ [-77])).toArray 3 (0, 0))) := Lib.hid (by rw [← hw13]; exact (setRow_other _ _ _ _ (by omega)).trans ((hb13.block _ (by omega)).trans hky.out))
          clear hw13
          go_wp2_with fail
          refine (back_ints a2 cap2 n2 w.heap.size (w.heap.size + 1) ys w13 HL2.out (hr2.below hb013 (Nat.le_refl _)) (by omega) hky13.out).mono ?_
          rintro e w14 ⟨rfl, u14, Y2, hb14, hw14⟩
          have hb014 : Below w.heap.size w w14 := by rw [← hw14]; exact below_setRow (hb013.trans (hb14.mono hb013.size)) (by omega) _
          clear hw14
          go_wp2
          go_ret
          exact ⟨by simp, hb014⟩
end Go.Proofs.Ytmionaamaojjbaa
