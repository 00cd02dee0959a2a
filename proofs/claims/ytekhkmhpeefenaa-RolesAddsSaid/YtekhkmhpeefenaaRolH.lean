/-
  Layer 8, the document's answer, by contract: rows. (Made by wip/gen_rrows.py.)
-/
import Derived.Test.YtekhkmhpeefenaaRolG
namespace Go.Proofs.Ytekhkmhpeefenaa
set_option linter.unusedVariables false
open Go.RowKit Go.Sort Go.Shelf

theorem nameAt_0 {l : List ByteArray} {k : Nat} (hk : k < l.length) (h0 : k = 0) : nameAt l k = nameB l[k] := by
  unfold nameAt; rw [List.getElem?_eq_getElem hk]; simp [h0]
theorem nameAt_1 {l : List ByteArray} {k : Nat} (hk : k + 1 < l.length) : nameAt l (k + 1) = (nameB l[k + 1] && ltT l[k] l[k + 1]) := by
  unfold nameAt; rw [List.getElem?_eq_getElem hk]; simp [List.getElem?_eq_getElem (show k < l.length by omega)]
theorem memAt_0 {r : Rols} {k : Nat} (hk : k < r.mems.length) (h0 : k = 0) : memAt r k = (inB r.names r.mems[k].role && inB r.names r.mems[k].of) := by
  unfold memAt; rw [List.getElem?_eq_getElem hk]; simp [h0]
theorem memAt_1 {r : Rols} {k : Nat} (hk : k + 1 < r.mems.length) : memAt r (k + 1) = (inB r.names r.mems[k + 1].role && inB r.names r.mems[k + 1].of && ltM r.mems[k] r.mems[k + 1]) := by
  unfold memAt; rw [List.getElem?_eq_getElem hk]; simp [List.getElem?_eq_getElem (show k < r.mems.length by omega)]

set_option maxRecDepth 100000 in
set_option maxHeartbeats 16000000 in
theorem ref_rrows_any (B : Nat) (r : Rols) (vn vm : Value) (w : World) (h : rolP w (· < B) [vn, vm] r) (hB : B ≤ w.heap.size) :
    Calls Try.prog 36 #[.agg #[vn, vm]] w fun e w' => e = .returned (.bool (rowsR r)) ∧ Gr w w' := by
  have mixed := mixed_ok
  obtain ⟨na, nn, nc, ma, mn, mc, rfl, rfl, hnn, hmn, hnc, hmc, hnc2, hmc2, hn, hm⟩ := rol_form h
  unfold maxLen at hnc2 hmc2
  have hno1 : ∀ k, k < nn → nameAt r.names k = false → rowsR r = false := fun k hk hp => by unfold rowsR; rw [hnn, all_range_no hk hp]; rfl
  have hno2 : ∀ k, k < mn → memAt r k = false → rowsR r = false := fun k hk hp => by unfold rowsR; rw [hmn, all_range_no hk hp]; simp
  have hyes : (∀ k, k < nn → nameAt r.names k = true) → (∀ k, k < mn → memAt r k = true) → rowsR r = true := fun h g => by
    unfold rowsR; rw [hnn, hmn, all_range_iff.2 h, all_range_iff.2 g]; rfl
  have HNO1 := Lib.hid hno1; have HNO2 := Lib.hid hno2; have HYES := Lib.hid hyes
  have HNN := Lib.hid hnn; have HMN := Lib.hid hmn
  have hbx := box_at2 w (.slice na nn nc) (.slice ma mn mc) 25
  have hg1 := Gr.alloc w (.cells #[.slice na nn nc, .slice ma mn mc] 25)
  have hl1 : w.heap.size < (w.alloc (.cells #[.slice na nn nc, .slice ma mn mc] 25)).heap.size := by simp
  have HN := Lib.hid hn; have HM := Lib.hid hm
  have HIN := Lib.hid (fun x (W : World) (hW : Gr w W) => ref_in_any na nn nc B r.names x W (strs_keep hn (fun _ h => h) (hW.keeps fun j hj => Nat.lt_of_lt_of_le hj hB)))
  clear h hn hm hnn hmn hno1 hno2 hyes
  go_enter Try.func36, Try.ntmps36
  go_wp2_with fail
  generalize hw1 : World.alloc w _ = w1 at *
  clear hw1
  have z0 := hbx 0 _ rfl
  have z1 := hbx 1 _ rfl
  clear hbx
  go_loopw [3] (fun i wr => ∃ k : Nat, k ≤ nn ∧ i = .int .i64 k ∧ Hid (∀ j, j < k → nameAt r.names j = true) ∧ Gr w1 wr) (fun i _ => nn - (intOf i).toNat)
  case atStart => exact ⟨0, Nat.zero_le _, rfl, Lib.hid (fun _ h => by omega), Gr.refl _⟩
  case round =>
    obtain ⟨k, hk, rfl, hn, hgr⟩ := hrel
    have hwr := hg1.trans hgr
    have y0 := cell_on hgr.below z0
    have y1 := cell_on hgr.below z1
    have hlr : w.heap.size < wr.heap.size := Nat.lt_of_lt_of_le hl1 hgr.below.size
    by_cases hlt : k < nn
    · have lk : k < r.names.length := by rw [HNN.out]; exact hlt
      obtain ⟨b, q, x, rfl, hbB, hx, hxl⟩ := HN.out.at lk
      have hbl : b < w.heap.size := Nat.lt_of_lt_of_le hbB hB
      have hbr : b < wr.heap.size := Nat.lt_of_lt_of_le hbl hwr.below.size
      have c0 : wr.cell? ⟨b, q + k, none⟩ = some (.string r.names[k]) := by
        have := (hwr.below.cell (p := ⟨b, q + k * 1 + 0, none⟩) hbl).trans (hxl 0 (.string r.names[k]) (by rw [hx]; rfl))
        simpa using this
      have f0 := fun n' os => cell_grown (w := wr) (a := ⟨w.heap.size, 0, none⟩) hlr y0 n' os
      have f1 := fun n' os => cell_grown (w := wr) (a := ⟨b, q + k, none⟩) hbr c0 n' os
      have hno := HNO1.out k hlt
      have hst := fun h => upto_succ hn.out h
      have k0 : (0 : Int) ≤ (k : Int) := by omega
      have k1 : (k : Int) < (nn : Int) := by omega
      have HKN := Lib.hid (show k + 1 ≤ nn by omega)
      clear hx hxl hn c0
      by_cases hk0 : k = 0
      · have hat := nameAt_0 lk hk0
        have ek : decide ((0 : Int) < (k : Int)) = false := decide_eq_false (by omega)
        have ek2 : ¬ (0 : Int) < (k : Int) := by omega
        have ek3 : ¬ 0 < k := by omega
        replace hk0 := Lib.hid hk0
        generalize r.names[k] = y at *
        have HNA := Lib.hid (ref_name_any y)
        generalize nameB y = p1 at *
        cases p1 with
        | false =>
          have HF := Lib.hid (hno (by rw [hat]))
          clear hno hst hat
          go_wp2_with fail
          refine Go.wp_region_quiet_grown mixed (by kernel_rfl) ?_
          repeat (go_big_quiet_step (first | (go_at_call 44; exact gr_call (gr_same HNA.out))))
          refine Go.wpQuiet_nil ?_
          intro _ hw'
          obtain ⟨⟨nq, osq⟩, hw''⟩ := hw'
          subst hw''
          go_wp2_with fail
          go_ret
          exact ⟨by rw [HF.out]; rfl, hwr.trans (Gr.grown _ _ _)⟩
        | true =>
          have HS := Lib.hid (hst (by rw [hat]))
          clear hno hst hat
          go_wp2_with fail
          refine Go.wp_region_quiet_grown mixed (by kernel_rfl) ?_
          repeat (go_big_quiet_step (first | (go_at_call 44; exact gr_call (gr_same HNA.out))))
          refine Go.wpQuiet_nil ?_
          intro _ hw'
          obtain ⟨⟨nq, osq⟩, hw''⟩ := hw'
          subst hw''
          go_wp2_with fail
          go_roundw
          case rel => exact ⟨_, HKN.out, by go_num, HS, hgr.trans (Gr.grown _ _ _)⟩
          case measure => have := HKN.out; simp [intOf]; omega
      · obtain ⟨k', rfl⟩ : ∃ k', k = k' + 1 := ⟨k - 1, by omega⟩
        have hat := nameAt_1 lk
        have ek : decide ((0 : Int) < ((k' + 1 : Nat) : Int)) = true := decide_eq_true (by omega)
        have ek2 : (0 : Int) < ((k' + 1 : Nat) : Int) := by omega
        have ek3 : 0 < k' + 1 := by omega
        have lk' : k' < r.names.length := by omega
        obtain ⟨b', q', x', hbe, hbB', hx', hxl'⟩ := HN.out.at lk'
        simp only [Option.some.injEq, Addr.mk.injEq, and_true] at hbe
        obtain ⟨rfl, rfl⟩ := hbe
        have c2 : wr.cell? ⟨b, q + k', none⟩ = some (.string r.names[k']) := by
          have := (hwr.below.cell (p := ⟨b, q + k' * 1 + 0, none⟩) hbl).trans (hxl' 0 (.string r.names[k']) (by rw [hx']; rfl))
          simpa using this
        have f2 := fun n' os => cell_grown (w := wr) (a := ⟨b, q + k', none⟩) hbr c2 n' os
        have ki : ((k' + 1 : Nat) : Int) - 1 = (k' : Int) := by omega
        have kw : IntKind.i64.wrap (((k' + 1 : Nat) : Int) - 1) = (k' : Int) := by rw [ki]; exact IntWalk.i64_in _ (by omega)
        have kp0 : (0 : Int) ≤ (k' : Int) := by omega
        have kp1 : (k' : Int) < (nn : Int) := by omega
        clear hx' hxl' c2
        generalize r.names[k'] = pv at *
        generalize r.names[k' + 1] = y at *
        generalize hkk : k' + 1 = kk at *
        replace hkk := Lib.hid hkk
        have HNA := Lib.hid (ref_name_any y)
        generalize nameB y = p1 at *
        cases p1 with
        | false =>
          have HF := Lib.hid (hno (by rw [hat]; rfl))
          clear hno hst hat
          go_wp2_with fail
          refine Go.wp_region_quiet_grown mixed (by kernel_rfl) ?_
          repeat (go_big_quiet_step (first | (go_at_call 44; exact gr_call (gr_same HNA.out))))
          refine Go.wpQuiet_nil ?_
          intro _ hw'
          obtain ⟨⟨nq, osq⟩, hw''⟩ := hw'
          subst hw''
          go_wp2_with fail
          go_ret
          exact ⟨by rw [HF.out]; rfl, hwr.trans (Gr.grown _ _ _)⟩
        | true =>
          cases hl : ltT pv y with
          | true =>
            have HS := Lib.hid (hst (by rw [hat, hl]; rfl))
            have el : Op.bytesLess pv.toList y.toList = true := hl
            clear hno hst hat hl
            go_wp2_with fail
            refine Go.wp_region_quiet_grown mixed (by kernel_rfl) ?_
            repeat (go_big_quiet_step (first | (go_at_call 44; exact gr_call (gr_same HNA.out))))
            refine Go.wpQuiet_nil ?_
            intro _ hw'
            obtain ⟨⟨nq, osq⟩, hw''⟩ := hw'
            subst hw''
            go_wp2_with fail
            go_roundw
            case rel => exact ⟨_, HKN.out, by go_num, HS, hgr.trans (Gr.grown _ _ _)⟩
            case measure => have := HKN.out; simp [intOf]; omega
          | false =>
            have el : Op.bytesLess pv.toList y.toList = false := hl
            have HF := Lib.hid (hno (by rw [hat, hl]; rfl))
            clear hno hst hat
            clear hl
            go_wp2_with fail
            refine Go.wp_region_quiet_grown mixed (by kernel_rfl) ?_
            repeat (go_big_quiet_step (first | (go_at_call 44; exact gr_call (gr_same HNA.out))))
            refine Go.wpQuiet_nil ?_
            intro _ hw'
            obtain ⟨⟨nq, osq⟩, hw''⟩ := hw'
            subst hw''
            go_wp2_with fail
            go_ret
            exact ⟨by rw [HF.out]; rfl, hwr.trans (Gr.grown _ _ _)⟩
    · have HN1 := Lib.hid (show ∀ j, j < nn → nameAt r.names j = true from fun j hj => hn.out j (by omega))
      clear hn
      go_wp2_with fail
      clear y0 hlr hlt
      go_loopw [4] (fun i wx => ∃ k : Nat, k ≤ mn ∧ i = .int .i64 k ∧ Hid (∀ j, j < k → memAt r j = true) ∧ Gr w1 wx) (fun i _ => mn - (intOf i).toNat)
      case atStart => exact ⟨0, Nat.zero_le _, rfl, Lib.hid (fun _ h => by omega), hgr⟩
      case round =>
        clear hgr hwr y1
        obtain ⟨k, hk, rfl, hn, hgr⟩ := hrel
        have hwr := hg1.trans hgr
        have y0 := cell_on hgr.below z0
        have y1 := cell_on hgr.below z1
        have hlr : w.heap.size < wr.heap.size := Nat.lt_of_lt_of_le hl1 hgr.below.size
        by_cases hlt : k < mn
        · have lk : k < r.mems.length := by rw [HMN.out]; exact hlt
          obtain ⟨b, q, x, rfl, hbB, hx, hxl⟩ := HM.out.at lk
          have hbl : b < w.heap.size := Nat.lt_of_lt_of_le hbB hB
          have hbr : b < wr.heap.size := Nat.lt_of_lt_of_le hbl hwr.below.size
          have c0 := (hwr.below.cell (p := ⟨b, q + k * 2 + 0, none⟩) hbl).trans (hxl 0 (.string r.mems[k].role) (by rw [hx]; rfl))
          have c1 := (hwr.below.cell (p := ⟨b, q + k * 2 + 1, none⟩) hbl).trans (hxl 1 (.string r.mems[k].of) (by rw [hx]; rfl))
          rw [Nat.add_zero] at c0
          have hno := HNO2.out k hlt
          have hst := fun h => upto_succ hn.out h
          have k0 : (0 : Int) ≤ (k : Int) := by omega
          have k1 : (k : Int) < (mn : Int) := by omega
          have hbb := box_at2 wr (.string r.mems[k].role) (.string r.mems[k].of) 45
          have hga := Gr.alloc wr (.cells #[.string r.mems[k].role, .string r.mems[k].of] 45)
          have hla : wr.heap.size < (wr.alloc (.cells #[.string r.mems[k].role, .string r.mems[k].of] 45)).heap.size := by simp
          have b0 := hbb 0 _ rfl
          have b1 := hbb 1 _ rfl
          have a0 := cell_on hga.below y0
          have a1 := cell_on hga.below y1
          have hgb := hgr.trans hga
          have hwb := hwr.trans hga
          have HI1 := Lib.hid (HIN.out r.mems[k].role _ hwb)
          have HI2 := Lib.hid (HIN.out r.mems[k].of _ hwb)
          have HKN := Lib.hid (show k + 1 ≤ mn by omega)
          clear hbb hx hxl hn
          by_cases hk0 : k = 0
          · have hat := memAt_0 lk hk0
            have ek : decide ((0 : Int) < (k : Int)) = false := decide_eq_false (by omega)
            have ek2 : ¬ (0 : Int) < (k : Int) := by omega
            have ek3 : ¬ 0 < k := by omega
            replace hk0 := Lib.hid hk0
            generalize hsk : r.mems[k] = sk at *
            clear hsk
            obtain ⟨yr, yo⟩ := sk
            simp only at *
            generalize inB r.names yr = p1 at *
            generalize inB r.names yo = p2 at *
            cases p1 with
            | false =>
              have HF := Lib.hid (hno (by rw [hat]; simp))
              clear hno hst hat
              go_wp2_with fail
              refine HI1.out.mono ?_
              rintro e w' ⟨rfl, rfl⟩
              go_wp2_with fail
              go_ret
              exact ⟨by rw [HF.out]; rfl, hwb⟩
            | true =>
              cases p2 with
              | false =>
                have HF := Lib.hid (hno (by rw [hat]; simp))
                clear hno hst hat
                go_wp2_with fail
                refine HI1.out.mono ?_
                rintro e w' ⟨rfl, rfl⟩
                go_wp2_with fail
                refine HI2.out.mono ?_
                rintro e w' ⟨rfl, rfl⟩
                go_wp2_with fail
                go_ret
                exact ⟨by rw [HF.out]; rfl, hwb⟩
              | true =>
                have HS := Lib.hid (hst (by rw [hat]; rfl))
                clear hno hst hat 
                go_wp2_with fail
                refine HI1.out.mono ?_
                rintro e w' ⟨rfl, rfl⟩
                go_wp2_with fail
                refine HI2.out.mono ?_
                rintro e w' ⟨rfl, rfl⟩
                generalize hwb' : World.alloc wr _ = wb at *
                clear hwb'
                have hl0 : w.heap.size < wb.heap.size := Nat.lt_of_lt_of_le hlr hga.below.size
                have f1 := fun n' os => cell_grown (w := wb) (a := ⟨w.heap.size, 1, none⟩) hl0 a1 n' os
                have f2 := fun n' os => cell_grown (w := wb) (a := ⟨wr.heap.size, 0, none⟩) hla b0 n' os
                have f3 := fun n' os => cell_grown (w := wb) (a := ⟨wr.heap.size, 1, none⟩) hla b1 n' os
                clear a0 a1 b0 b1 c0 c1 y0 y1
                go_wp2_with fail
                refine Go.wp_region_quiet_grown mixed (by kernel_rfl) ?_
                repeat (go_big_quiet_step (fail))
                refine Go.wpQuiet_nil ?_
                intro _ hw'
                obtain ⟨⟨nq, osq⟩, hw''⟩ := hw'
                subst hw''
                go_wp2_with fail
                go_roundw
                case rel => exact ⟨_, HKN.out, by go_num, HS, hgb.trans (Gr.grown _ _ _)⟩
                case measure => have := HKN.out; simp [intOf]; omega
          · obtain ⟨k', rfl⟩ : ∃ k', k = k' + 1 := ⟨k - 1, by omega⟩
            have hat := memAt_1 lk
            have ek : decide ((0 : Int) < ((k' + 1 : Nat) : Int)) = true := decide_eq_true (by omega)
            have ek2 : (0 : Int) < ((k' + 1 : Nat) : Int) := by omega
            have ek3 : 0 < k' + 1 := by omega
            have lk' : k' < r.mems.length := by omega
            obtain ⟨b', q', x', hbe, hbB', hx', hxl'⟩ := HM.out.at lk'
            simp only [Option.some.injEq, Addr.mk.injEq, and_true] at hbe
            obtain ⟨rfl, rfl⟩ := hbe
            have c2 : (wr.alloc (.cells #[.string r.mems[k' + 1].role, .string r.mems[k' + 1].of] 45)).cell? ⟨b, q + k' * 2, none⟩ = some (.string r.mems[k'].role) := (hwb.below.cell (p := ⟨b, q + k' * 2 + 0, none⟩) hbl).trans (hxl' 0 (.string r.mems[k'].role) (by rw [hx']; rfl))
            have c3 := (hwb.below.cell (p := ⟨b, q + k' * 2 + 1, none⟩) hbl).trans (hxl' 1 (.string r.mems[k'].of) (by rw [hx']; rfl))
            have ki : ((k' + 1 : Nat) : Int) - 1 = (k' : Int) := by omega
            have kw : IntKind.i64.wrap (((k' + 1 : Nat) : Int) - 1) = (k' : Int) := by rw [ki]; exact IntWalk.i64_in _ (by omega)
            have kp0 : (0 : Int) ≤ (k' : Int) := by omega
            have kp1 : (k' : Int) < (mn : Int) := by omega
            clear hx' hxl'
            generalize hpk : r.mems[k'] = pk at *
            generalize hsk : r.mems[k' + 1] = sk at *
            clear hsk hpk
            obtain ⟨yr, yo⟩ := sk
            obtain ⟨pr, po⟩ := pk
            simp only at *
            have c2l := Nat.lt_of_lt_of_le hbl hwb.below.size
            generalize hkk : k' + 1 = kk at *
            replace hkk := Lib.hid hkk
            generalize inB r.names yr = p1 at *
            generalize inB r.names yo = p2 at *
            cases p1 with
            | false =>
              have HF := Lib.hid (hno (by rw [hat]; simp))
              clear hno hst hat
              go_wp2_with fail
              refine HI1.out.mono ?_
              rintro e w' ⟨rfl, rfl⟩
              go_wp2_with fail
              go_ret
              exact ⟨by rw [HF.out]; rfl, hwb⟩
            | true =>
              cases p2 with
              | false =>
                have HF := Lib.hid (hno (by rw [hat]; simp))
                clear hno hst hat
                go_wp2_with fail
                refine HI1.out.mono ?_
                rintro e w' ⟨rfl, rfl⟩
                go_wp2_with fail
                refine HI2.out.mono ?_
                rintro e w' ⟨rfl, rfl⟩
                go_wp2_with fail
                go_ret
                exact ⟨by rw [HF.out]; rfl, hwb⟩
              | true =>
                cases hg : ltT pr yr with
                | true =>
                  have e1 : Op.bytesLess pr.toList yr.toList = true := hg
                  have e2 : (pr.toList == yr.toList) = false := eqT_no.2 (fun e => by rw [e, ltT_irr] at hg; cases hg)
                  have HS := Lib.hid (hst (by rw [hat]; unfold ltM; simp only; rw [hg]; rfl))
                  clear hno hst hat hg
                  go_wp2_with fail
                  refine HI1.out.mono ?_
                  rintro e w' ⟨rfl, rfl⟩
                  go_wp2_with fail
                  refine HI2.out.mono ?_
                  rintro e w' ⟨rfl, rfl⟩
                  generalize hwb' : World.alloc wr _ = wb at *
                  clear hwb'
                  have hl0 : w.heap.size < wb.heap.size := Nat.lt_of_lt_of_le hlr hga.below.size
                  have f1 := fun n' os => cell_grown (w := wb) (a := ⟨w.heap.size, 1, none⟩) hl0 a1 n' os
                  have f2 := fun n' os => cell_grown (w := wb) (a := ⟨wr.heap.size, 0, none⟩) hla b0 n' os
                  have f3 := fun n' os => cell_grown (w := wb) (a := ⟨wr.heap.size, 1, none⟩) hla b1 n' os
                  have f4 := fun n' os => cell_grown (w := wb) (a := ⟨b, q + k' * 2, none⟩) c2l c2 n' os
                  have f5 := fun n' os => cell_grown (w := wb) (a := ⟨b, q + k' * 2 + 1, none⟩) c2l c3 n' os
                  clear c2 c3
                  clear a0 a1 b0 b1 c0 c1 y0 y1
                  go_wp2_with fail
                  refine Go.wp_region_quiet_grown mixed (by kernel_rfl) ?_
                  repeat (go_big_quiet_step (fail))
                  refine Go.wpQuiet_nil ?_
                  intro _ hw'
                  obtain ⟨⟨nq, osq⟩, hw''⟩ := hw'
                  subst hw''
                  go_wp2_with fail
                  go_roundw
                  case rel => exact ⟨_, HKN.out, by go_num, HS, hgb.trans (Gr.grown _ _ _)⟩
                  case measure => have := HKN.out; simp [intOf]; omega
                | false =>
                  have e1 : Op.bytesLess pr.toList yr.toList = false := hg
                  cases he : eqT pr yr with
                  | false =>
                    have e2 : (pr.toList == yr.toList) = false := he
                    have HF := Lib.hid (hno (by rw [hat]; unfold ltM; simp only; rw [hg, he]; rfl))
                    clear hno hst hat hg he
                    go_wp2_with fail
                    refine HI1.out.mono ?_
                    rintro e w' ⟨rfl, rfl⟩
                    go_wp2_with fail
                    refine HI2.out.mono ?_
                    rintro e w' ⟨rfl, rfl⟩
                    generalize hwb' : World.alloc wr _ = wb at *
                    clear hwb'
                    have hl0 : w.heap.size < wb.heap.size := Nat.lt_of_lt_of_le hlr hga.below.size
                    have f1 := fun n' os => cell_grown (w := wb) (a := ⟨w.heap.size, 1, none⟩) hl0 a1 n' os
                    have f2 := fun n' os => cell_grown (w := wb) (a := ⟨wr.heap.size, 0, none⟩) hla b0 n' os
                    have f3 := fun n' os => cell_grown (w := wb) (a := ⟨wr.heap.size, 1, none⟩) hla b1 n' os
                    have f4 := fun n' os => cell_grown (w := wb) (a := ⟨b, q + k' * 2, none⟩) c2l c2 n' os
                    have f5 := fun n' os => cell_grown (w := wb) (a := ⟨b, q + k' * 2 + 1, none⟩) c2l c3 n' os
                    clear c2 c3
                    clear a0 a1 b0 b1 c0 c1 y0 y1
                    go_wp2_with fail
                    refine Go.wp_region_quiet_grown mixed (by kernel_rfl) ?_
                    repeat (go_big_quiet_step (fail))
                    refine Go.wpQuiet_nil ?_
                    intro _ hw'
                    obtain ⟨⟨nq, osq⟩, hw''⟩ := hw'
                    subst hw''
                    go_wp2_with fail
                    go_ret
                    exact ⟨by rw [HF.out]; rfl, hwb.trans (Gr.grown _ _ _)⟩
                  | true =>
                    have e2 : (pr.toList == yr.toList) = true := he
                    cases hl : ltT po yo with
                    | true =>
                      have e3 : Op.bytesLess po.toList yo.toList = true := hl
                      have HS := Lib.hid (hst (by rw [hat]; unfold ltM; simp only; rw [he, hl]; simp))
                      clear hno hst hat hg he hl
                      go_wp2_with fail
                      refine HI1.out.mono ?_
                      rintro e w' ⟨rfl, rfl⟩
                      go_wp2_with fail
                      refine HI2.out.mono ?_
                      rintro e w' ⟨rfl, rfl⟩
                      generalize hwb' : World.alloc wr _ = wb at *
                      clear hwb'
                      have hl0 : w.heap.size < wb.heap.size := Nat.lt_of_lt_of_le hlr hga.below.size
                      have f1 := fun n' os => cell_grown (w := wb) (a := ⟨w.heap.size, 1, none⟩) hl0 a1 n' os
                      have f2 := fun n' os => cell_grown (w := wb) (a := ⟨wr.heap.size, 0, none⟩) hla b0 n' os
                      have f3 := fun n' os => cell_grown (w := wb) (a := ⟨wr.heap.size, 1, none⟩) hla b1 n' os
                      have f4 := fun n' os => cell_grown (w := wb) (a := ⟨b, q + k' * 2, none⟩) c2l c2 n' os
                      have f5 := fun n' os => cell_grown (w := wb) (a := ⟨b, q + k' * 2 + 1, none⟩) c2l c3 n' os
                      clear c2 c3
                      clear a0 a1 b0 b1 c0 c1 y0 y1
                      go_wp2_with fail
                      refine Go.wp_region_quiet_grown mixed (by kernel_rfl) ?_
                      repeat (go_big_quiet_step (fail))
                      refine Go.wpQuiet_nil ?_
                      intro _ hw'
                      obtain ⟨⟨nq, osq⟩, hw''⟩ := hw'
                      subst hw''
                      go_wp2_with fail
                      go_roundw
                      case rel => exact ⟨_, HKN.out, by go_num, HS, hgb.trans (Gr.grown _ _ _)⟩
                      case measure => have := HKN.out; simp [intOf]; omega
                    | false =>
                      have e3 : Op.bytesLess po.toList yo.toList = false := hl
                      have HF := Lib.hid (hno (by rw [hat]; unfold ltM; simp only; rw [hl, hg]; simp))
                      clear hno hst hat hg he hl
                      go_wp2_with fail
                      refine HI1.out.mono ?_
                      rintro e w' ⟨rfl, rfl⟩
                      go_wp2_with fail
                      refine HI2.out.mono ?_
                      rintro e w' ⟨rfl, rfl⟩
                      generalize hwb' : World.alloc wr _ = wb at *
                      clear hwb'
                      have hl0 : w.heap.size < wb.heap.size := Nat.lt_of_lt_of_le hlr hga.below.size
                      have f1 := fun n' os => cell_grown (w := wb) (a := ⟨w.heap.size, 1, none⟩) hl0 a1 n' os
                      have f2 := fun n' os => cell_grown (w := wb) (a := ⟨wr.heap.size, 0, none⟩) hla b0 n' os
                      have f3 := fun n' os => cell_grown (w := wb) (a := ⟨wr.heap.size, 1, none⟩) hla b1 n' os
                      have f4 := fun n' os => cell_grown (w := wb) (a := ⟨b, q + k' * 2, none⟩) c2l c2 n' os
                      have f5 := fun n' os => cell_grown (w := wb) (a := ⟨b, q + k' * 2 + 1, none⟩) c2l c3 n' os
                      clear c2 c3
                      clear a0 a1 b0 b1 c0 c1 y0 y1
                      go_wp2_with fail
                      refine Go.wp_region_quiet_grown mixed (by kernel_rfl) ?_
                      repeat (go_big_quiet_step (fail))
                      refine Go.wpQuiet_nil ?_
                      intro _ hw'
                      obtain ⟨⟨nq, osq⟩, hw''⟩ := hw'
                      subst hw''
                      go_wp2_with fail
                      go_ret
                      exact ⟨by rw [HF.out]; rfl, hwb.trans (Gr.grown _ _ _)⟩
        · have HF := Lib.hid (HYES.out HN1.out fun j hj => hn.out j (by omega))
          clear hn
          go_wp2_with fail
          go_ret
          exact ⟨by rw [HF.out]; rfl, hwr⟩
end Go.Proofs.Ytekhkmhpeefenaa
