/-
  The document's answer for layer 7, by contract: right.
-/
import Derived.Test.YtkghkioghkapcaaObjF
namespace Go.Proofs.Ytkghkioghkapcaa
open Go.RowKit Go.Sort

theorem rulAt_first {o : Objs} {t : Tab} {k : Nat} (h : k < t.rules.length) (h0 : k = 0) : rulAt o t k = (fitsB t.cols t.rules[k] && (decide (t.rules[k].kind ≠ 4) || decide (keyE o.tables t.cols t.rules[k] = 0))) := by
  subst h0
  unfold rulAt
  rw [List.getElem?_eq_getElem h]
  simp
theorem rulAt_next {o : Objs} {t : Tab} {k : Nat} (h : k + 1 < t.rules.length) : rulAt o t (k + 1) = (ltT t.rules[k].name t.rules[k + 1].name && (fitsB t.cols t.rules[k + 1] && (decide (t.rules[k + 1].kind ≠ 4) || decide (keyE o.tables t.cols t.rules[k + 1] = 0)))) := by
  unfold rulAt
  rw [List.getElem?_eq_getElem h]
  simp only [Nat.add_sub_cancel]
  rw [List.getElem?_eq_getElem (show k < t.rules.length by omega)]
  simp

set_option maxRecDepth 100000 in
set_option maxHeartbeats 32000000 in
theorem ref_right1_any (B : Nat) (o : Objs) (t : Tab) (vs vt vc vr : Value) (w : World) (ho : objP w (· < B) [vs, vt] o) (hc : Lst w (· < B) colP 3 vc t.cols) (hr : Lst w (· < B) (rulP w (· < B)) 8 vr t.rules) (hB : B ≤ w.heap.size) :
    Calls Try.prog 53 #[.agg #[vs, vt], .agg #[.string t.schema, .string t.name, .string t.owner, vc, vr]] w fun e w' => e = .returned (.bool (tabB o t)) ∧ Gr w w' := by
  have mixed := mixed_ok
  obtain ⟨ca, cc, rfl, hcc, hcm⟩ := hc.form
  obtain ⟨ra, rc, rfl, hrc, hrm⟩ := hr.form
  obtain ⟨cn, hcn⟩ : ∃ cn, t.cols.length = cn := ⟨_, rfl⟩
  obtain ⟨rn, hrn⟩ : ∃ rn, t.rules.length = rn := ⟨_, rfl⟩
  have hno : ∀ k, k < rn → rulAt o t k = false → tabB o t = false := fun k hk hp => by unfold tabB; rw [hrn, all_range_no hk hp]; simp
  have hyes : tabB o t = (decide (0 ≤ schI o.schemas t.schema) && (nameB t.name && (nameB t.owner && (colsB t.cols && decide (rn ≤ 8)))) && (List.range rn).all (rulAt o t)) := by unfold tabB; rw [hrn]
  rw [hcn] at hc hcc
  rw [hrn] at hr hrc
  rw [hcn, hrn]
  unfold maxLen at hcm hrm
  have HNO := Lib.hid hno; have HY := Lib.hid hyes
  have HC := Lib.hid hc; have HR := Lib.hid hr; have HO := Lib.hid ho; have HRN := Lib.hid hrn; have HCN := Lib.hid hcn
  obtain ⟨_, _, hv, hss, hts⟩ := ho
  simp only [List.cons.injEq, and_true] at hv
  obtain ⟨rfl, rfl⟩ := hv
  obtain ⟨sa, sc, rfl, _⟩ := hss.form
  obtain ⟨ta, tc, rfl, _⟩ := hts.form
  generalize o.schemas.length = sn at *
  generalize o.tables.length = tn at *
  have hb1 := box_two w (.slice sa sn sc) (.slice ta tn tc) 26
  have hg1 := Gr.alloc w (.cells #[.slice sa sn sc, .slice ta tn tc] 26)
  have hs1 : (w.alloc (.cells #[.slice sa sn sc, .slice ta tn tc] 26)).heap.size = w.heap.size + 1 := by simp
  have hb2 := box_five (w.alloc (.cells #[.slice sa sn sc, .slice ta tn tc] 26)) (.string t.schema) (.string t.name) (.string t.owner) (.slice ca cn cc) (.slice ra rn rc) 35
  have hg2 := Gr.alloc (w.alloc (.cells #[.slice sa sn sc, .slice ta tn tc] 26)) (.cells #[.string t.schema, .string t.name, .string t.owner, .slice ca cn cc, .slice ra rn rc] 35)
  rw [hs1] at hb2
  have hs2 : ((w.alloc (.cells #[.slice sa sn sc, .slice ta tn tc] 26)).alloc (.cells #[.string t.schema, .string t.name, .string t.owner, .slice ca cn cc, .slice ra rn rc] 35)).heap.size = w.heap.size + 2 := by simp
  have zo0 := cell_on hg2.below hb1.1
  have zo1 := cell_on hg2.below hb1.2
  have zt0 := hb2 0 _ rfl
  have zt1 := hb2 1 _ rfl
  have zt2 := hb2 2 _ rfl
  have zt3 := hb2 3 _ rfl
  have zt4 := hb2 4 _ rfl
  have hw2 := hg1.trans hg2
  clear hc hr hss hts hb1 hb2 hg1 hg2 hs1 hno hyes hrn hcn
  go_enter Try.func53, Try.ntmps53
  go_wp2_with fail
  generalize hwq : World.alloc (World.alloc w _) _ = w2 at *
  clear hwq
  have HNA := Lib.hid ref_name_any
  have hsI := HY.out
  refine (ref_schema_any B (.slice sa sn sc) (.slice ta tn tc) o t.schema w2 (obj_keep HO.out (fun _ h => h) (hw2.keeps fun j hj => Nat.lt_of_lt_of_le hj hB))).mono ?_
  rintro e w3 ⟨rfl, hg3⟩
  have hw3 := hw2.trans hg3
  have yo0 := cell_on hg3.below zo0
  have yo1 := cell_on hg3.below zo1
  have yt1 := cell_on hg3.below zt1
  have yt2 := cell_on hg3.below zt2
  have yt3 := cell_on hg3.below zt3
  have yt4 := cell_on hg3.below zt4
  have hs3 : w.heap.size + 2 ≤ w3.heap.size := by rw [← hs2]; exact hg3.below.size
  clear zo0 zo1 zt0 zt1 zt2 zt3 zt4 hs2
  generalize schI o.schemas t.schema = si at *
  by_cases hsi : si < 0
  · have HF := Lib.hid (show tabB o t = false by rw [hsI, decide_eq_false (by omega)]; rfl)
    have es : decide (si < 0) = true := decide_eq_true hsi
    clear hsI
    go_wp2_with fail
    go_ret
    exact ⟨by rw [HF.out]; rfl, hw3⟩
  · have es : decide (si < 0) = false := decide_eq_false hsi
    rw [decide_eq_true (show 0 ≤ si by omega), Bool.true_and] at hsI
    have HN1 := Lib.hid (HNA.out t.name)
    have HN2 := Lib.hid (HNA.out t.owner)
    have HCL := Lib.hid (ref_columns_any ca cn cc B t.cols w3 (cols_keep HC.out (fun _ h => h) (hw3.keeps fun j hj => Nat.lt_of_lt_of_le hj hB)) (Nat.le_trans hB hw3.below.size))
    clear HNA HY
    generalize nameB t.name = p1 at *
    generalize nameB t.owner = p2 at *
    generalize colsB t.cols = p3 at *
    cases p1 with
    | false =>
      have HF := Lib.hid (show tabB o t = false by rw [hsI]; simp)
      clear hsI
      go_wp2_with fail
      refine (HN1.out _).mono ?_
      rintro e w' ⟨rfl, rfl⟩
      go_wp2_with fail
      go_ret
      exact ⟨by rw [HF.out]; rfl, hw3⟩
    | true =>
      cases p2 with
      | false =>
        have HF := Lib.hid (show tabB o t = false by rw [hsI]; simp)
        clear hsI
        go_wp2_with fail
        refine (HN1.out _).mono ?_
        rintro e w' ⟨rfl, rfl⟩
        go_wp2_with fail
        refine (HN2.out _).mono ?_
        rintro e w' ⟨rfl, rfl⟩
        go_wp2_with fail
        go_ret
        exact ⟨by rw [HF.out]; rfl, hw3⟩
      | true =>
        cases p3 with
        | false =>
          have HF := Lib.hid (show tabB o t = false by rw [hsI]; simp)
          clear hsI
          go_wp2_with fail
          refine (HN1.out _).mono ?_
          rintro e w' ⟨rfl, rfl⟩
          go_wp2_with fail
          refine (HN2.out _).mono ?_
          rintro e w' ⟨rfl, rfl⟩
          go_wp2_with fail
          refine HCL.out.mono ?_
          rintro e w4 ⟨rfl, hg4⟩
          go_wp2_with fail
          go_ret
          exact ⟨by rw [HF.out]; rfl, hw3.trans hg4⟩
        | true =>
          go_wp2_with fail
          refine (HN1.out _).mono ?_
          rintro e w' ⟨rfl, rfl⟩
          go_wp2_with fail
          refine (HN2.out _).mono ?_
          rintro e w' ⟨rfl, rfl⟩
          go_wp2_with fail
          refine HCL.out.mono ?_
          rintro e w4 ⟨rfl, hg4⟩
          have hw4 := hw3.trans hg4
          have xo0 := cell_on hg4.below yo0
          have xo1 := cell_on hg4.below yo1
          have xt3 := cell_on hg4.below yt3
          have xt4 := cell_on hg4.below yt4
          have hs4 : w.heap.size + 2 ≤ w4.heap.size := Nat.le_trans hs3 hg4.below.size
          clear yo0 yo1 yt1 yt2 yt3 yt4 hg3 hg4 hs3 HCL HN1 HN2
          by_cases h8 : rn ≤ 8
          · have e8 : decide ((8 : Int) < (rn : Int)) = false := decide_eq_false (by omega)
            rw [decide_eq_true h8] at hsI
            simp only [Bool.true_and] at hsI
            have HSI := Lib.hid hsI
            clear hsI
            go_wp2_with fail
            go_loopw [5] (fun i wr => ∃ k : Nat, k ≤ rn ∧ i = .int .i64 k ∧ Hid (∀ j, j < k → rulAt o t j = true) ∧ Gr w4 wr) (fun i _ => rn - (intOf i).toNat)
            case atStart => exact ⟨0, Nat.zero_le _, rfl, Lib.hid (fun _ h => by omega), Gr.refl _⟩
            case round =>
              obtain ⟨k, hk, rfl, hn, hgr⟩ := hrel
              have hwr := hw4.trans hgr
              have vo0 := cell_on hgr.below xo0
              have vo1 := cell_on hgr.below xo1
              have vt3 := cell_on hgr.below xt3
              have vt4 := cell_on hgr.below xt4
              have hsr : w.heap.size + 2 ≤ wr.heap.size := Nat.le_trans hs4 hgr.below.size
              by_cases hlt : k < rn
              · have lk : k < t.rules.length := by rw [HRN.out]; exact hlt
                obtain ⟨b, q, x, rfl, hbB, hx, hxl⟩ := HR.out.at lk
                have hbl : b < w.heap.size := Nat.lt_of_lt_of_le hbB hB
                have hno := HNO.out k hlt
                have hst := fun h => upto_succ hn.out h
                have k0 : (0 : Int) ≤ (k : Int) := by omega
                have k1 : (k : Int) < (rn : Int) := by omega
                have HKN := Lib.hid (show k + 1 ≤ rn by omega)
                have HMS := Lib.hid (show rn - (k + 1) < rn - k by omega)
                by_cases hk0 : k = 0
                · have hat := rulAt_first (o := o) lk hk0
                  have ek : decide ((0 : Int) < (k : Int)) = false := decide_eq_false (by omega)
                  have ek2 : ¬ (0 : Int) < (k : Int) := by omega
                  have ek3 : ¬ 0 < k := by omega
                  replace hk0 := Lib.hid hk0
                  generalize hRR : t.rules[k] = R at *
                  clear hRR
                  obtain ⟨rv, rfl, hrv⟩ := hx
                  obtain ⟨va, vcap, rfl, hv1, hv2⟩ := hrv.form
                  obtain ⟨vn, hvn⟩ : ∃ vn, R.cols.length = vn := ⟨_, rfl⟩
                  rw [hvn] at hrv hxl hv1
                  have c0 : wr.cell? ⟨b, q + k * 8, none⟩ = _ := (hwr.below.cell (p := ⟨b, q + k * 8 + 0, none⟩) hbl).trans (hxl 0 _ rfl)
                  have c1 := (hwr.below.cell (p := ⟨b, q + k * 8 + 1, none⟩) hbl).trans (hxl 1 _ rfl)
                  have c2 := (hwr.below.cell (p := ⟨b, q + k * 8 + 2, none⟩) hbl).trans (hxl 2 _ rfl)
                  have c3 := (hwr.below.cell (p := ⟨b, q + k * 8 + 3, none⟩) hbl).trans (hxl 3 _ rfl)
                  have c4 := (hwr.below.cell (p := ⟨b, q + k * 8 + 4, none⟩) hbl).trans (hxl 4 _ rfl)
                  have c5 := (hwr.below.cell (p := ⟨b, q + k * 8 + 5, none⟩) hbl).trans (hxl 5 _ rfl)
                  have c6 := (hwr.below.cell (p := ⟨b, q + k * 8 + 6, none⟩) hbl).trans (hxl 6 _ rfl)
                  have c7 := (hwr.below.cell (p := ⟨b, q + k * 8 + 7, none⟩) hbl).trans (hxl 7 _ rfl)
                  have hbb := box_rule wr (.string R.name) (.int .i64 R.kind) (.slice va vn vcap) (.int .i64 R.low) (.int .i64 R.high) (.string R.schema) (.string R.table) (.string R.key) 56
                  have hga := Gr.alloc wr (.cells #[.string R.name, .int .i64 R.kind, .slice va vn vcap, .int .i64 R.low, .int .i64 R.high, .string R.schema, .string R.table, .string R.key] 56)
                  have hla : wr.heap.size < (wr.alloc (.cells #[.string R.name, .int .i64 R.kind, .slice va vn vcap, .int .i64 R.low, .int .i64 R.high, .string R.schema, .string R.table, .string R.key] 56)).heap.size := by simp
                  have m0 := hbb 0 _ rfl
                  have m1 := hbb 1 _ rfl
                  have m2 := hbb 2 _ rfl
                  have m3 := hbb 3 _ rfl
                  have m4 := hbb 4 _ rfl
                  have m5 := hbb 5 _ rfl
                  have m6 := hbb 6 _ rfl
                  have m7 := hbb 7 _ rfl
                  have mo0 := cell_on hga.below vo0
                  have mo1 := cell_on hga.below vo1
                  have mt3 := cell_on hga.below vt3
                  have mt4 := cell_on hga.below vt4
                  have hwb := hwr.trans hga
                  have hgb := hgr.trans hga
                  have HRV := Lib.hid hrv
                  have HFT := Lib.hid (fun (W : World) (hW : Gr w W) => ref_fits_any ca cn cc B t.cols R (.slice va vn vcap) W (cols_keep HC.out (fun _ h => h) (hW.keeps fun j hj => Nat.lt_of_lt_of_le hj hB)) (strs_keep HRV.out (fun _ h => h) (hW.keeps fun j hj => Nat.lt_of_lt_of_le hj hB)) (Nat.le_trans hB hW.below.size))
                  have HK := Lib.hid (fun (W : World) (hW : Gr w W) => ref_key_any ca cn cc B t.cols o R (.slice sa sn sc) (.slice ta tn tc) (.slice va vn vcap) W (cols_keep HC.out (fun _ h => h) (hW.keeps fun j hj => Nat.lt_of_lt_of_le hj hB)) (obj_keep HO.out (fun _ h => h) (hW.keeps fun j hj => Nat.lt_of_lt_of_le hj hB)) (strs_keep HRV.out (fun _ h => h) (hW.keeps fun j hj => Nat.lt_of_lt_of_le hj hB)) (Nat.le_trans hB hW.below.size))
                  clear hbb hrv hxl hvn
                  generalize R.name = rnm at *
                  generalize R.kind = rkd at *
                  generalize R.low = rlo at *
                  generalize R.high = rhi at *
                  generalize R.schema = rsc at *
                  generalize R.table = rtb at *
                  generalize R.key = rky at *
                  go_wp2_with fail
                  generalize hwb' : World.alloc wr _ = wb at *
                  clear hwb' c0 c1 c2 c3 c4 c5 c6 c7 vo0 vo1 vt3 vt4
                  have hlw : w.heap.size < wb.heap.size := by omega
                  have hlw1 : w.heap.size + 1 < wb.heap.size := by omega
                  have HFI := Lib.hid (fun (W : World) (hW : Gr wb W) => HFT.out W (hwb.trans hW))
                  have f3 := fun n' os => cell_grown (w := wb) (a := ⟨w.heap.size + 1, 3, none⟩) hlw1 mt3 n' os
                  have f4 := fun n' os => cell_grown (w := wb) (a := ⟨w.heap.size + 1, 4, none⟩) hlw1 mt4 n' os
                  have n0 := fun n' os => cell_grown (w := wb) (a := ⟨wr.heap.size, 0, none⟩) hla m0 n' os
                  have n1 := fun n' os => cell_grown (w := wb) (a := ⟨wr.heap.size, 1, none⟩) hla m1 n' os
                  have n2 := fun n' os => cell_grown (w := wb) (a := ⟨wr.heap.size, 2, none⟩) hla m2 n' os
                  have n3 := fun n' os => cell_grown (w := wb) (a := ⟨wr.heap.size, 3, none⟩) hla m3 n' os
                  have n4 := fun n' os => cell_grown (w := wb) (a := ⟨wr.heap.size, 4, none⟩) hla m4 n' os
                  have n5 := fun n' os => cell_grown (w := wb) (a := ⟨wr.heap.size, 5, none⟩) hla m5 n' os
                  have n6 := fun n' os => cell_grown (w := wb) (a := ⟨wr.heap.size, 6, none⟩) hla m6 n' os
                  have n7 := fun n' os => cell_grown (w := wb) (a := ⟨wr.heap.size, 7, none⟩) hla m7 n' os
                  generalize fitsB t.cols R = pf at *
                  cases pf with
                  | false =>
                    have HF := Lib.hid (hno (by rw [hat]; simp))
                    clear hno hst hat
                    go_wp2_with fail
                    refine Go.wp_region_quiet_grown mixed (by kernel_rfl) ?_
                    repeat (go_big_quiet_step (first | (go_at_call 102; exact gr_from HFI.out)))
                    refine Go.wpQuiet_nil ?_
                    intro _ hw'
                    obtain ⟨⟨nq, osq⟩, hw''⟩ := hw'
                    subst hw''
                    go_wp2_with fail
                    go_ret
                    exact ⟨by rw [HF.out]; rfl, hwb.trans (Gr.grown _ _ _)⟩
                  | true =>
                    go_wp2_with fail
                    refine Go.wp_region_quiet_grown mixed (by kernel_rfl) ?_
                    repeat (go_big_quiet_step (first | (go_at_call 102; exact gr_from HFI.out)))
                    refine Go.wpQuiet_nil ?_
                    intro _ hw'
                    obtain ⟨⟨nq, osq⟩, hw''⟩ := hw'
                    subst hw''
                    have hgx := Gr.grown wb nq osq
                    generalize hwx : grow (wb.drewN (GrownBy.mk nq osq).n) (GrownBy.mk nq osq).os = wx
                    replace hgx : Gr wb wx := hwx ▸ hgx
                    clear hwx
                    have hwx := hwb.trans hgx
                    have hgw := hgb.trans hgx
                    have g0 := cell_on hgx.below m0
                    have g1 := cell_on hgx.below m1
                    have g2 := cell_on hgx.below m2
                    have g3 := cell_on hgx.below m3
                    have g4 := cell_on hgx.below m4
                    have g5 := cell_on hgx.below m5
                    have g6 := cell_on hgx.below m6
                    have g7 := cell_on hgx.below m7
                    have gv0 := cell_on hgx.below mo0
                    have gv1 := cell_on hgx.below mo1
                    have gt3 := cell_on hgx.below mt3
                    clear n0 n1 n2 n3 n4 n5 n6 n7 f3 f4
                    clear m0 m1 m2 m3 m4 m5 m6 m7 mo0 mo1 mt3 mt4
                    by_cases h4 : rkd = 4
                    · by_cases hke : keyE o.tables t.cols R = 0
                      · have HS := Lib.hid (hst (by rw [hat, decide_eq_true hke]; simp [*]))
                        have HKE := Lib.hid (HK.out wx hwx)
                        rw [hke] at HKE
                        clear hno hst hat
                        subst h4
                        go_wp2_with fail
                        refine HKE.out.mono ?_
                        rintro e w9 ⟨rfl, hg9⟩
                        go_wp2_with fail
                        go_roundw
                        case rel => exact ⟨_, HKN.out, by go_num, HS, hgw.trans hg9⟩
                        case measure => have := HMS.out; simp [intOf]; omega
                      · have HF := Lib.hid (hno (by rw [hat, decide_eq_false hke, decide_eq_false (by simpa using h4)]; simp))
                        have HKE := Lib.hid (HK.out wx hwx)
                        have en : (keyE o.tables t.cols R != 0) = true := by simpa using hke
                        generalize keyE o.tables t.cols R = ke at *
                        clear hno hst hat
                        subst h4
                        go_wp2_with fail
                        refine HKE.out.mono ?_
                        rintro e w9 ⟨rfl, hg9⟩
                        go_wp2_with fail
                        go_ret
                        exact ⟨by rw [HF.out]; rfl, hwx.trans hg9⟩
                    · have HS := Lib.hid (hst (by rw [hat, decide_eq_true (show rkd ≠ 4 from h4)]; simp [*]))
                      have e4 : (rkd == 4) = false := by simpa using h4
                      clear hno hst hat
                      go_wp2_with fail
                      go_roundw
                      case rel => exact ⟨_, HKN.out, by go_num, HS, hgw⟩
                      case measure => have := HMS.out; simp [intOf]; omega
                · obtain ⟨k', rfl⟩ : ∃ k', k = k' + 1 := ⟨k - 1, by omega⟩
                  have hat := rulAt_next (o := o) lk
                  have ek : decide ((0 : Int) < ((k' + 1 : Nat) : Int)) = true := decide_eq_true (by omega)
                  have ek2 : (0 : Int) < ((k' + 1 : Nat) : Int) := by omega
                  have ek3 : 0 < k' + 1 := by omega
                  have lk' : k' < t.rules.length := by omega
                  obtain ⟨b', q', x', hbe, _, hx', hxl'⟩ := HR.out.at lk'
                  simp only [Option.some.injEq, Addr.mk.injEq, and_true] at hbe
                  obtain ⟨rfl, rfl⟩ := hbe
                  obtain ⟨rv', rfl, _⟩ := hx'
                  have cp : wr.cell? ⟨b, q + k' * 8, none⟩ = _ := (hwr.below.cell (p := ⟨b, q + k' * 8 + 0, none⟩) hbl).trans (hxl' 0 _ rfl)
                  have ki : ((k' + 1 : Nat) : Int) - 1 = (k' : Int) := by omega
                  have kw : IntKind.i64.wrap (((k' + 1 : Nat) : Int) - 1) = (k' : Int) := by rw [ki]; exact IntWalk.i64_in _ (by omega)
                  have kp0 : (0 : Int) ≤ (k' : Int) := by omega
                  have kp1 : (k' : Int) < (rn : Int) := by omega
                  clear hxl'
                  generalize t.rules[k'].name = pv at *
                  generalize hRR : t.rules[k' + 1] = R at *
                  clear hRR
                  obtain ⟨rv, rfl, hrv⟩ := hx
                  obtain ⟨va, vcap, rfl, hv1, hv2⟩ := hrv.form
                  obtain ⟨vn, hvn⟩ : ∃ vn, R.cols.length = vn := ⟨_, rfl⟩
                  rw [hvn] at hrv hxl hv1
                  have c0 : wr.cell? ⟨b, q + (k' + 1) * 8, none⟩ = _ := (hwr.below.cell (p := ⟨b, q + (k' + 1) * 8 + 0, none⟩) hbl).trans (hxl 0 _ rfl)
                  have c1 := (hwr.below.cell (p := ⟨b, q + (k' + 1) * 8 + 1, none⟩) hbl).trans (hxl 1 _ rfl)
                  have c2 := (hwr.below.cell (p := ⟨b, q + (k' + 1) * 8 + 2, none⟩) hbl).trans (hxl 2 _ rfl)
                  have c3 := (hwr.below.cell (p := ⟨b, q + (k' + 1) * 8 + 3, none⟩) hbl).trans (hxl 3 _ rfl)
                  have c4 := (hwr.below.cell (p := ⟨b, q + (k' + 1) * 8 + 4, none⟩) hbl).trans (hxl 4 _ rfl)
                  have c5 := (hwr.below.cell (p := ⟨b, q + (k' + 1) * 8 + 5, none⟩) hbl).trans (hxl 5 _ rfl)
                  have c6 := (hwr.below.cell (p := ⟨b, q + (k' + 1) * 8 + 6, none⟩) hbl).trans (hxl 6 _ rfl)
                  have c7 := (hwr.below.cell (p := ⟨b, q + (k' + 1) * 8 + 7, none⟩) hbl).trans (hxl 7 _ rfl)
                  have hbb := box_rule wr (.string R.name) (.int .i64 R.kind) (.slice va vn vcap) (.int .i64 R.low) (.int .i64 R.high) (.string R.schema) (.string R.table) (.string R.key) 56
                  have hga := Gr.alloc wr (.cells #[.string R.name, .int .i64 R.kind, .slice va vn vcap, .int .i64 R.low, .int .i64 R.high, .string R.schema, .string R.table, .string R.key] 56)
                  have hla : wr.heap.size < (wr.alloc (.cells #[.string R.name, .int .i64 R.kind, .slice va vn vcap, .int .i64 R.low, .int .i64 R.high, .string R.schema, .string R.table, .string R.key] 56)).heap.size := by simp
                  have m0 := hbb 0 _ rfl
                  have m1 := hbb 1 _ rfl
                  have m2 := hbb 2 _ rfl
                  have m3 := hbb 3 _ rfl
                  have m4 := hbb 4 _ rfl
                  have m5 := hbb 5 _ rfl
                  have m6 := hbb 6 _ rfl
                  have m7 := hbb 7 _ rfl
                  have mo0 := cell_on hga.below vo0
                  have mo1 := cell_on hga.below vo1
                  have mt3 := cell_on hga.below vt3
                  have mt4 := cell_on hga.below vt4
                  have hwb := hwr.trans hga
                  have hgb := hgr.trans hga
                  have mp := cell_on hga.below cp
                  have HRV := Lib.hid hrv
                  have HFT := Lib.hid (fun (W : World) (hW : Gr w W) => ref_fits_any ca cn cc B t.cols R (.slice va vn vcap) W (cols_keep HC.out (fun _ h => h) (hW.keeps fun j hj => Nat.lt_of_lt_of_le hj hB)) (strs_keep HRV.out (fun _ h => h) (hW.keeps fun j hj => Nat.lt_of_lt_of_le hj hB)) (Nat.le_trans hB hW.below.size))
                  have HK := Lib.hid (fun (W : World) (hW : Gr w W) => ref_key_any ca cn cc B t.cols o R (.slice sa sn sc) (.slice ta tn tc) (.slice va vn vcap) W (cols_keep HC.out (fun _ h => h) (hW.keeps fun j hj => Nat.lt_of_lt_of_le hj hB)) (obj_keep HO.out (fun _ h => h) (hW.keeps fun j hj => Nat.lt_of_lt_of_le hj hB)) (strs_keep HRV.out (fun _ h => h) (hW.keeps fun j hj => Nat.lt_of_lt_of_le hj hB)) (Nat.le_trans hB hW.below.size))
                  clear hbb hrv hxl hvn
                  generalize R.name = rnm at *
                  generalize R.kind = rkd at *
                  generalize R.low = rlo at *
                  generalize R.high = rhi at *
                  generalize R.schema = rsc at *
                  generalize R.table = rtb at *
                  generalize R.key = rky at *
                  generalize hkk : k' + 1 = kk at *
                  replace hkk := Lib.hid hkk
                  go_wp2_with fail
                  generalize hwb' : World.alloc wr _ = wb at *
                  clear hwb' c0 c1 c2 c3 c4 c5 c6 c7 vo0 vo1 vt3 vt4
                  have hlw : w.heap.size < wb.heap.size := by omega
                  have hlw1 : w.heap.size + 1 < wb.heap.size := by omega
                  have HFI := Lib.hid (fun (W : World) (hW : Gr wb W) => HFT.out W (hwb.trans hW))
                  have f3 := fun n' os => cell_grown (w := wb) (a := ⟨w.heap.size + 1, 3, none⟩) hlw1 mt3 n' os
                  have f4 := fun n' os => cell_grown (w := wb) (a := ⟨w.heap.size + 1, 4, none⟩) hlw1 mt4 n' os
                  have n0 := fun n' os => cell_grown (w := wb) (a := ⟨wr.heap.size, 0, none⟩) hla m0 n' os
                  have n1 := fun n' os => cell_grown (w := wb) (a := ⟨wr.heap.size, 1, none⟩) hla m1 n' os
                  have n2 := fun n' os => cell_grown (w := wb) (a := ⟨wr.heap.size, 2, none⟩) hla m2 n' os
                  have n3 := fun n' os => cell_grown (w := wb) (a := ⟨wr.heap.size, 3, none⟩) hla m3 n' os
                  have n4 := fun n' os => cell_grown (w := wb) (a := ⟨wr.heap.size, 4, none⟩) hla m4 n' os
                  have n5 := fun n' os => cell_grown (w := wb) (a := ⟨wr.heap.size, 5, none⟩) hla m5 n' os
                  have n6 := fun n' os => cell_grown (w := wb) (a := ⟨wr.heap.size, 6, none⟩) hla m6 n' os
                  have n7 := fun n' os => cell_grown (w := wb) (a := ⟨wr.heap.size, 7, none⟩) hla m7 n' os
                  generalize fitsB t.cols R = pf at *
                  have hbw' : b < wb.heap.size := Nat.lt_of_lt_of_le hbl hwb.below.size
                  have f5 := fun n' os => cell_grown (w := wb) (a := ⟨b, q + k' * 8, none⟩) hbw' mp n' os
                  clear mp cp
                  cases hlq : ltT pv rnm with
                  | false =>
                    have HF := Lib.hid (hno (by rw [hat, hlq]; simp))
                    have el : Op.bytesLess pv.toList rnm.toList = false := hlq
                    clear hno hst hat hlq
                    go_wp2_with fail
                    refine Go.wp_region_quiet_grown mixed (by kernel_rfl) ?_
                    repeat (go_big_quiet_step (first | (go_at_call 102; exact gr_from HFI.out)))
                    refine Go.wpQuiet_nil ?_
                    intro _ hw'
                    obtain ⟨⟨nq, osq⟩, hw''⟩ := hw'
                    subst hw''
                    go_wp2_with fail
                    go_ret
                    exact ⟨by rw [HF.out]; rfl, hwb.trans (Gr.grown _ _ _)⟩
                  | true =>
                    have el : Op.bytesLess pv.toList rnm.toList = true := hlq
                    cases pf with
                    | false =>
                      have HF := Lib.hid (hno (by rw [hat, hlq]; simp))
                      clear hno hst hat
                      go_wp2_with fail
                      refine Go.wp_region_quiet_grown mixed (by kernel_rfl) ?_
                      repeat (go_big_quiet_step (first | (go_at_call 102; exact gr_from HFI.out)))
                      refine Go.wpQuiet_nil ?_
                      intro _ hw'
                      obtain ⟨⟨nq, osq⟩, hw''⟩ := hw'
                      subst hw''
                      go_wp2_with fail
                      go_ret
                      exact ⟨by rw [HF.out]; rfl, hwb.trans (Gr.grown _ _ _)⟩
                    | true =>
                      rw [hlq] at hat
                      go_wp2_with fail
                      refine Go.wp_region_quiet_grown mixed (by kernel_rfl) ?_
                      repeat (go_big_quiet_step (first | (go_at_call 102; exact gr_from HFI.out)))
                      refine Go.wpQuiet_nil ?_
                      intro _ hw'
                      obtain ⟨⟨nq, osq⟩, hw''⟩ := hw'
                      subst hw''
                      have hgx := Gr.grown wb nq osq
                      generalize hwx : grow (wb.drewN (GrownBy.mk nq osq).n) (GrownBy.mk nq osq).os = wx
                      replace hgx : Gr wb wx := hwx ▸ hgx
                      clear hwx
                      have hwx := hwb.trans hgx
                      have hgw := hgb.trans hgx
                      have g0 := cell_on hgx.below m0
                      have g1 := cell_on hgx.below m1
                      have g2 := cell_on hgx.below m2
                      have g3 := cell_on hgx.below m3
                      have g4 := cell_on hgx.below m4
                      have g5 := cell_on hgx.below m5
                      have g6 := cell_on hgx.below m6
                      have g7 := cell_on hgx.below m7
                      have gv0 := cell_on hgx.below mo0
                      have gv1 := cell_on hgx.below mo1
                      have gt3 := cell_on hgx.below mt3
                      clear n0 n1 n2 n3 n4 n5 n6 n7 f3 f4 f5
                      clear m0 m1 m2 m3 m4 m5 m6 m7 mo0 mo1 mt3 mt4
                      by_cases h4 : rkd = 4
                      · by_cases hke : keyE o.tables t.cols R = 0
                        · have HS := Lib.hid (hst (by rw [hat, decide_eq_true hke]; simp [*]))
                          have HKE := Lib.hid (HK.out wx hwx)
                          rw [hke] at HKE
                          clear hno hst hat
                          subst h4
                          go_wp2_with fail
                          refine HKE.out.mono ?_
                          rintro e w9 ⟨rfl, hg9⟩
                          go_wp2_with fail
                          go_roundw
                          case rel => exact ⟨_, HKN.out, by go_num, HS, hgw.trans hg9⟩
                          case measure => have := HMS.out; simp [intOf]; omega
                        · have HF := Lib.hid (hno (by rw [hat, decide_eq_false hke, decide_eq_false (by simpa using h4)]; simp))
                          have HKE := Lib.hid (HK.out wx hwx)
                          have en : (keyE o.tables t.cols R != 0) = true := by simpa using hke
                          generalize keyE o.tables t.cols R = ke at *
                          clear hno hst hat
                          subst h4
                          go_wp2_with fail
                          refine HKE.out.mono ?_
                          rintro e w9 ⟨rfl, hg9⟩
                          go_wp2_with fail
                          go_ret
                          exact ⟨by rw [HF.out]; rfl, hwx.trans hg9⟩
                      · have HS := Lib.hid (hst (by rw [hat, decide_eq_true (show rkd ≠ 4 from h4)]; simp [*]))
                        have e4 : (rkd == 4) = false := by simpa using h4
                        clear hno hst hat
                        go_wp2_with fail
                        go_roundw
                        case rel => exact ⟨_, HKN.out, by go_num, HS, hgw⟩
                        case measure => have := HMS.out; simp [intOf]; omega
              · have HF := Lib.hid (show tabB o t = true by rw [HSI.out]; exact all_range_iff.2 fun j hj => hn.out j (by omega))
                go_wp2_with fail
                go_ret
                exact ⟨by rw [HF.out]; rfl, hwr⟩
          · have e8 : decide ((8 : Int) < (rn : Int)) = true := decide_eq_true (by omega)
            have HF := Lib.hid (show tabB o t = false by rw [hsI, decide_eq_false h8]; simp)
            clear hsI
            go_wp2_with fail
            go_ret
            exact ⟨by rw [HF.out]; rfl, hw4⟩
end Go.Proofs.Ytkghkioghkapcaa
