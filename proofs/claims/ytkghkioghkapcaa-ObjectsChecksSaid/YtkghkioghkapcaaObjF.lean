/-
  The document's answer for layer 7, by contract: rows.
-/
import Derived.Test.YtkghkioghkapcaaObjE
namespace Go.Proofs.Ytkghkioghkapcaa
open Go.RowKit Go.Sort

theorem schAt_get {o : Objs} {k : Nat} (h : k < o.schemas.length) (h0 : k = 0) : schAt o k = (nameB o.schemas[k].name && (nameB o.schemas[k].owner && decide (tabN o.tables o.schemas[k].name ≤ 8))) := by
  subst h0
  unfold schAt
  rw [List.getElem?_eq_getElem h]
  simp
theorem schAt_next {o : Objs} {k : Nat} (h : k + 1 < o.schemas.length) : schAt o (k + 1) = (nameB o.schemas[k + 1].name && (nameB o.schemas[k + 1].owner && (ltT o.schemas[k].name o.schemas[k + 1].name && decide (tabN o.tables o.schemas[k + 1].name ≤ 8)))) := by
  unfold schAt
  rw [List.getElem?_eq_getElem h]
  simp only [Nat.add_sub_cancel]
  rw [List.getElem?_eq_getElem (show k < o.schemas.length by omega)]
  simp
theorem riseAt_get {o : Objs} {k : Nat} (h : k + 1 < o.tables.length) : riseAt o k = ahead o.tables[k] o.tables[k + 1] := by
  unfold riseAt
  rw [List.getElem?_eq_getElem (show k < o.tables.length by omega), List.getElem?_eq_getElem h]
set_option maxRecDepth 100000 in
set_option maxHeartbeats 16000000 in
theorem ref_rows_any (B : Nat) (o : Objs) (vs vt : Value) (w : World) (ho : objP w (· < B) [vs, vt] o) (hB : B ≤ w.heap.size) :
    Calls Try.prog 52 #[.agg #[vs, vt]] w fun e w' => e = .returned (.bool (rowsB o)) ∧ Gr w w' := by
  have mixed := mixed_ok
  have HO := Lib.hid ho
  obtain ⟨_, _, hv, hss, hts⟩ := ho
  simp only [List.cons.injEq, and_true] at hv
  obtain ⟨rfl, rfl⟩ := hv
  obtain ⟨sa, sc, rfl, hsc, hsm⟩ := hss.form
  obtain ⟨ta, tc, rfl, htc, htm⟩ := hts.form
  obtain ⟨sn', hsn⟩ : ∃ sn, o.schemas.length = sn := ⟨_, rfl⟩
  obtain ⟨tn, htn⟩ : ∃ tn, o.tables.length = tn := ⟨_, rfl⟩
  have hno1 : ∀ k, k < sn' → schAt o k = false → rowsB o = false := fun k hk hp => by unfold rowsB; rw [hsn, all_range_no hk hp]; rfl
  have hno2 : ∀ k, k < tn - 1 → riseAt o k = false → rowsB o = false := fun k hk hp => by unfold rowsB; rw [htn, all_range_no hk hp]; simp
  have hyes : (∀ k, k < sn' → schAt o k = true) → (∀ k, k < tn - 1 → riseAt o k = true) → rowsB o = decide (sn' ≤ 8) := fun h g => by
    unfold rowsB; rw [hsn, htn, all_range_iff.2 h, all_range_iff.2 g]; rfl
  have HNO1 := Lib.hid hno1; have HNO2 := Lib.hid hno2; have HYES := Lib.hid hyes
  rw [hsn] at hss hsc HO
  rw [htn] at hts htc HO
  rw [hsn, htn]
  unfold maxLen at hsm htm
  have HSN := Lib.hid hsn; have HTN := Lib.hid htn
  have hbx := box_at2 w (.slice sa sn' sc) (.slice ta tn tc) 26
  have hg1 := Gr.alloc w (.cells #[.slice sa sn' sc, .slice ta tn tc] 26)
  have hl1 : w.heap.size < (w.alloc (.cells #[.slice sa sn' sc, .slice ta tn tc] 26)).heap.size := by simp
  have HSS := Lib.hid hss; have HTS := Lib.hid hts
  clear hss hts hsn htn hno1 hno2 hyes
  go_enter Try.func52, Try.ntmps52
  go_wp2_with fail
  generalize hw1 : World.alloc w _ = w1 at *
  clear hw1
  have z0 := hbx 0 _ rfl
  have z1 := hbx 1 _ rfl
  clear hbx
  go_loopw [3] (fun i wr => ∃ k : Nat, k ≤ sn' ∧ i = .int .i64 k ∧ Hid (∀ j, j < k → schAt o j = true) ∧ Gr w1 wr) (fun i _ => sn' - (intOf i).toNat)
  case atStart => exact ⟨0, Nat.zero_le _, rfl, Lib.hid (fun _ h => by omega), Gr.refl _⟩
  case round =>
    obtain ⟨k, hk, rfl, hn, hgr⟩ := hrel
    have hwr := hg1.trans hgr
    have y0 := cell_on hgr.below z0
    have y1 := cell_on hgr.below z1
    have hlr : w.heap.size < wr.heap.size := Nat.lt_of_lt_of_le hl1 hgr.below.size
    by_cases hlt : k < sn'
    · have lk : k < o.schemas.length := by rw [HSN.out]; exact hlt
      obtain ⟨b, q, x, rfl, hbB, hx, hxl⟩ := HSS.out.at lk
      have hbl : b < w.heap.size := Nat.lt_of_lt_of_le hbB hB
      have c0 := (hwr.below.cell (p := ⟨b, q + k * 2 + 0, none⟩) hbl).trans (hxl 0 (.string o.schemas[k].name) (by rw [hx]; rfl))
      have c1 := (hwr.below.cell (p := ⟨b, q + k * 2 + 1, none⟩) hbl).trans (hxl 1 (.string o.schemas[k].owner) (by rw [hx]; rfl))
      rw [Nat.add_zero] at c0
      have HNA := Lib.hid ref_name_any
      have HTB := Lib.hid (fun (W : World) (hW : Gr w W) => ref_tables_any B (.slice (some ⟨b, q, none⟩) sn' sc) (.slice ta tn tc) o o.schemas[k].name W (obj_keep HO.out (fun _ h => h) (hW.keeps fun j hj => Nat.lt_of_lt_of_le hj hB)))
      have hno := HNO1.out k hlt
      have hst := fun h => upto_succ hn.out h
      have k0 : (0 : Int) ≤ (k : Int) := by omega
      have k1 : (k : Int) < (sn' : Int) := by omega
      have hbb := box_at2 wr (.string o.schemas[k].name) (.string o.schemas[k].owner) 75
      have hga := Gr.alloc wr (.cells #[.string o.schemas[k].name, .string o.schemas[k].owner] 75)
      have hla : wr.heap.size < (wr.alloc (.cells #[.string o.schemas[k].name, .string o.schemas[k].owner] 75)).heap.size := by simp
      have b0 := hbb 0 _ rfl
      have b1 := hbb 1 _ rfl
      have a0 := cell_on hga.below y0
      have a1 := cell_on hga.below y1
      have hgb := hgr.trans hga
      have hwb := hwr.trans hga
      clear hbb hx hxl
      have HKN := Lib.hid (show k + 1 ≤ sn' by omega)
      by_cases hk0 : k = 0
      · have hat := schAt_get lk hk0
        have ek : decide ((0 : Int) < (k : Int)) = false := decide_eq_false (by omega)
        generalize hsk : o.schemas[k] = sk at *
        clear hsk
        obtain ⟨sn, sw⟩ := sk
        simp only at *
        have HN1 := Lib.hid (HNA.out sn)
        have HN2 := Lib.hid (HNA.out sw)
        clear HNA
        have ek2 : ¬ (0 : Int) < (k : Int) := by omega
        have ek3 : ¬ 0 < k := by omega
        replace hk0 := Lib.hid hk0
        go_wp2_with fail
        generalize hwb' : World.alloc wr _ = wb at *
        clear hwb'
        have hl0 : w.heap.size < wb.heap.size := Nat.lt_of_lt_of_le hlr hga.below.size
        have f0 := fun n' os => cell_grown (w := wb) (a := ⟨w.heap.size, 0, none⟩) hl0 a0 n' os
        have f1 := fun n' os => cell_grown (w := wb) (a := ⟨w.heap.size, 1, none⟩) hl0 a1 n' os
        have f2 := fun n' os => cell_grown (w := wb) (a := ⟨wr.heap.size, 0, none⟩) hla b0 n' os
        have f3 := fun n' os => cell_grown (w := wb) (a := ⟨wr.heap.size, 1, none⟩) hla b1 n' os
        have HT := Lib.hid (fun (W : World) (hW : Gr wb W) => HTB.out W (hwb.trans hW))
        clear HTB a0 a1 b0 b1 c0 c1 y0 y1
        generalize tabN o.tables sn = tq at *
        generalize nameB sn = p1 at *
        generalize nameB sw = p2 at *
        cases p1 with
        | false =>
          have HF := Lib.hid (hno (by rw [hat]; simp))
          clear hno hst hat
          go_wp2_with fail
          refine Go.wp_region_quiet_grown mixed (by kernel_rfl) ?_
          repeat (go_big_quiet_step (first | (go_at_call_of 13 (Value.string sn); exact gr_call (gr_same HN1.out)) | (go_at_call_of 13 (Value.string sw); exact gr_call (gr_same HN2.out)) | (go_at_call 71; exact gr_from HT.out)))
          refine Go.wpQuiet_nil ?_
          intro _ hw'
          obtain ⟨⟨nq, osq⟩, hw''⟩ := hw'
          subst hw''
          go_wp2_with fail
          go_ret
          exact ⟨by rw [HF.out]; rfl, hwb.trans (Gr.grown _ _ _)⟩
        | true =>
          cases p2 with
          | false =>
            have HF := Lib.hid (hno (by rw [hat]; simp))
            clear hno hst hat
            go_wp2_with fail
            refine Go.wp_region_quiet_grown mixed (by kernel_rfl) ?_
            repeat (go_big_quiet_step (first | (go_at_call_of 13 (Value.string sn); exact gr_call (gr_same HN1.out)) | (go_at_call_of 13 (Value.string sw); exact gr_call (gr_same HN2.out)) | (go_at_call 71; exact gr_from HT.out)))
            refine Go.wpQuiet_nil ?_
            intro _ hw'
            obtain ⟨⟨nq, osq⟩, hw''⟩ := hw'
            subst hw''
            go_wp2_with fail
            go_ret
            exact ⟨by rw [HF.out]; rfl, hwb.trans (Gr.grown _ _ _)⟩
          | true =>
            by_cases h8 : tq ≤ 8
            · have HS := Lib.hid (hst (by rw [hat, decide_eq_true h8]; rfl))
              have e8 : decide ((8 : Int) < (tq : Int)) = false := decide_eq_false (by omega)
              clear hno hst hat
              go_wp2_with fail
              refine Go.wp_region_quiet_grown mixed (by kernel_rfl) ?_
              repeat (go_big_quiet_step (first | (go_at_call_of 13 (Value.string sn); exact gr_call (gr_same HN1.out)) | (go_at_call_of 13 (Value.string sw); exact gr_call (gr_same HN2.out)) | (go_at_call 71; exact gr_from HT.out)))
              refine Go.wpQuiet_nil ?_
              intro _ hw'
              obtain ⟨⟨nq, osq⟩, hw''⟩ := hw'
              subst hw''
              go_wp2_with fail
              go_roundw
              case rel => exact ⟨_, HKN.out, by go_num, HS, hgb.trans (Gr.grown _ _ _)⟩
              case measure => simp [intOf]; omega
            · have HF := Lib.hid (hno (by rw [hat, decide_eq_false h8]; rfl))
              have e8 : decide ((8 : Int) < (tq : Int)) = true := decide_eq_true (by omega)
              clear hno hst hat
              go_wp2_with fail
              refine Go.wp_region_quiet_grown mixed (by kernel_rfl) ?_
              repeat (go_big_quiet_step (first | (go_at_call_of 13 (Value.string sn); exact gr_call (gr_same HN1.out)) | (go_at_call_of 13 (Value.string sw); exact gr_call (gr_same HN2.out)) | (go_at_call 71; exact gr_from HT.out)))
              refine Go.wpQuiet_nil ?_
              intro _ hw'
              obtain ⟨⟨nq, osq⟩, hw''⟩ := hw'
              subst hw''
              go_wp2_with fail
              go_ret
              exact ⟨by rw [HF.out]; rfl, hwb.trans (Gr.grown _ _ _)⟩
      · obtain ⟨k', rfl⟩ : ∃ k', k = k' + 1 := ⟨k - 1, by omega⟩
        have hat := schAt_next lk
        have ek : decide ((0 : Int) < ((k' + 1 : Nat) : Int)) = true := decide_eq_true (by omega)
        have ek2 : (0 : Int) < ((k' + 1 : Nat) : Int) := by omega
        have ek3 : 0 < k' + 1 := by omega
        have lk' : k' < o.schemas.length := by omega
        obtain ⟨b', q', x', hbe, hbB', hx', hxl'⟩ := HSS.out.at lk'
        simp only [Option.some.injEq, Addr.mk.injEq, and_true] at hbe
        obtain ⟨rfl, rfl⟩ := hbe
        have c2 : (wr.alloc (.cells #[.string o.schemas[k' + 1].name, .string o.schemas[k' + 1].owner] 75)).cell? ⟨b, q + k' * 2, none⟩ = some (.string o.schemas[k'].name) := (hwb.below.cell (p := ⟨b, q + k' * 2 + 0, none⟩) hbl).trans (hxl' 0 (.string o.schemas[k'].name) (by rw [hx']; rfl))
        have ki : ((k' + 1 : Nat) : Int) - 1 = (k' : Int) := by omega
        have kw : IntKind.i64.wrap (((k' + 1 : Nat) : Int) - 1) = (k' : Int) := by rw [ki]; exact IntWalk.i64_in _ (by omega)
        have kp0 : (0 : Int) ≤ (k' : Int) := by omega
        have kp1 : (k' : Int) < (sn' : Int) := by omega
        clear hx' hxl'
        generalize o.schemas[k'].name = pv at *
        generalize hsk : o.schemas[k' + 1] = sk at *
        clear hsk
        obtain ⟨sn, sw⟩ := sk
        simp only at *
        have HN1 := Lib.hid (HNA.out sn)
        have HN2 := Lib.hid (HNA.out sw)
        clear HNA
        have c2l := Nat.lt_of_lt_of_le hbl hwb.below.size
        generalize hkk : k' + 1 = kk at *
        replace hkk := Lib.hid hkk
        go_wp2_with fail
        generalize hwb' : World.alloc wr _ = wb at *
        clear hwb'
        have hl0 : w.heap.size < wb.heap.size := Nat.lt_of_lt_of_le hlr hga.below.size
        have f0 := fun n' os => cell_grown (w := wb) (a := ⟨w.heap.size, 0, none⟩) hl0 a0 n' os
        have f1 := fun n' os => cell_grown (w := wb) (a := ⟨w.heap.size, 1, none⟩) hl0 a1 n' os
        have f2 := fun n' os => cell_grown (w := wb) (a := ⟨wr.heap.size, 0, none⟩) hla b0 n' os
        have f3 := fun n' os => cell_grown (w := wb) (a := ⟨wr.heap.size, 1, none⟩) hla b1 n' os
        have HT := Lib.hid (fun (W : World) (hW : Gr wb W) => HTB.out W (hwb.trans hW))
        clear HTB a0 a1 b0 b1 c0 c1 y0 y1
        generalize tabN o.tables sn = tq at *
        generalize nameB sn = p1 at *
        generalize nameB sw = p2 at *
        have f4 := fun n' os => cell_grown (w := wb) (a := ⟨b, q + k' * 2, none⟩) c2l c2 n' os
        clear c2
        cases p1 with
        | false =>
          have HF := Lib.hid (hno (by rw [hat]; simp))
          clear hno hst hat
          go_wp2_with fail
          refine Go.wp_region_quiet_grown mixed (by kernel_rfl) ?_
          repeat (go_big_quiet_step (first | (go_at_call_of 13 (Value.string sn); exact gr_call (gr_same HN1.out)) | (go_at_call_of 13 (Value.string sw); exact gr_call (gr_same HN2.out)) | (go_at_call 71; exact gr_from HT.out)))
          refine Go.wpQuiet_nil ?_
          intro _ hw'
          obtain ⟨⟨nq, osq⟩, hw''⟩ := hw'
          subst hw''
          go_wp2_with fail
          go_ret
          exact ⟨by rw [HF.out]; rfl, hwb.trans (Gr.grown _ _ _)⟩
        | true =>
          cases p2 with
          | false =>
            have HF := Lib.hid (hno (by rw [hat]; simp))
            clear hno hst hat
            go_wp2_with fail
            refine Go.wp_region_quiet_grown mixed (by kernel_rfl) ?_
            repeat (go_big_quiet_step (first | (go_at_call_of 13 (Value.string sn); exact gr_call (gr_same HN1.out)) | (go_at_call_of 13 (Value.string sw); exact gr_call (gr_same HN2.out)) | (go_at_call 71; exact gr_from HT.out)))
            refine Go.wpQuiet_nil ?_
            intro _ hw'
            obtain ⟨⟨nq, osq⟩, hw''⟩ := hw'
            subst hw''
            go_wp2_with fail
            go_ret
            exact ⟨by rw [HF.out]; rfl, hwb.trans (Gr.grown _ _ _)⟩
          | true =>
            cases hlq : ltT pv sn with
            | false =>
              have HF := Lib.hid (hno (by rw [hat, hlq]; simp))
              have el : Op.bytesLess pv.toList sn.toList = false := hlq
              clear hno hst hat hlq
              go_wp2_with fail
              refine Go.wp_region_quiet_grown mixed (by kernel_rfl) ?_
              repeat (go_big_quiet_step (first | (go_at_call_of 13 (Value.string sn); exact gr_call (gr_same HN1.out)) | (go_at_call_of 13 (Value.string sw); exact gr_call (gr_same HN2.out)) | (go_at_call 71; exact gr_from HT.out)))
              refine Go.wpQuiet_nil ?_
              intro _ hw'
              obtain ⟨⟨nq, osq⟩, hw''⟩ := hw'
              subst hw''
              go_wp2_with fail
              go_ret
              exact ⟨by rw [HF.out]; rfl, hwb.trans (Gr.grown _ _ _)⟩
            | true =>
              have el : Op.bytesLess pv.toList sn.toList = true := hlq
              by_cases h8 : tq ≤ 8
              · have HS := Lib.hid (hst (by rw [hat, hlq, decide_eq_true h8]; rfl))
                have e8 : decide ((8 : Int) < (tq : Int)) = false := decide_eq_false (by omega)
                clear hno hst hat hlq
                go_wp2_with fail
                refine Go.wp_region_quiet_grown mixed (by kernel_rfl) ?_
                repeat (go_big_quiet_step (first | (go_at_call_of 13 (Value.string sn); exact gr_call (gr_same HN1.out)) | (go_at_call_of 13 (Value.string sw); exact gr_call (gr_same HN2.out)) | (go_at_call 71; exact gr_from HT.out)))
                refine Go.wpQuiet_nil ?_
                intro _ hw'
                obtain ⟨⟨nq, osq⟩, hw''⟩ := hw'
                subst hw''
                go_wp2_with fail
                go_roundw
                case rel => exact ⟨_, HKN.out, by go_num, HS, hgb.trans (Gr.grown _ _ _)⟩
                case measure => simp [intOf]; omega
              · have HF := Lib.hid (hno (by rw [hat, hlq, decide_eq_false h8]; rfl))
                have e8 : decide ((8 : Int) < (tq : Int)) = true := decide_eq_true (by omega)
                clear hno hst hat hlq
                go_wp2_with fail
                refine Go.wp_region_quiet_grown mixed (by kernel_rfl) ?_
                repeat (go_big_quiet_step (first | (go_at_call_of 13 (Value.string sn); exact gr_call (gr_same HN1.out)) | (go_at_call_of 13 (Value.string sw); exact gr_call (gr_same HN2.out)) | (go_at_call 71; exact gr_from HT.out)))
                refine Go.wpQuiet_nil ?_
                intro _ hw'
                obtain ⟨⟨nq, osq⟩, hw''⟩ := hw'
                subst hw''
                go_wp2_with fail
                go_ret
                exact ⟨by rw [HF.out]; rfl, hwb.trans (Gr.grown _ _ _)⟩
    · have HS1 := Lib.hid (fun j (hj : j < sn') => hn.out j (by omega))
      clear hn
      go_wp2_with fail
      clear y0 y1 hwr hlr hlt
      go_loopw [5] (fun i wx => ∃ j : Nat, 1 ≤ j ∧ (j ≤ tn ∨ j = 1) ∧ i = .int .i64 j ∧ Hid (∀ q, q + 1 < j → riseAt o q = true) ∧ Gr w1 wx) (fun i _ => tn - (intOf i).toNat)
      case atStart => exact ⟨1, Nat.le_refl _, .inr rfl, rfl, Lib.hid (fun _ h => by omega), hgr⟩
      case round =>
        clear hgr
        obtain ⟨jj, hj1, hj2, rfl, hn, hgr⟩ := hrel
        have hwr := hg1.trans hgr
        have y0 := cell_on hgr.below z0
        have y1 := cell_on hgr.below z1
        by_cases hlt : jj < tn
        · obtain ⟨k', hkj⟩ : ∃ k', jj = k' + 1 := ⟨jj - 1, by omega⟩
          have lk : k' < o.tables.length := by rw [HTN.out]; omega
          have lk' : k' + 1 < o.tables.length := by rw [HTN.out]; omega
          obtain ⟨b, q, x, rfl, hbB, hx, hxl⟩ := HTS.out.at lk
          obtain ⟨b', q', x', hbe, _, hx', hxl'⟩ := HTS.out.at lk'
          simp only [Option.some.injEq, Addr.mk.injEq, and_true] at hbe
          obtain ⟨rfl, rfl⟩ := hbe
          have hbl : b < w.heap.size := Nat.lt_of_lt_of_le hbB hB
          have hat := riseAt_get lk'
          have hno := HNO2.out k' (by omega)
          have hst : riseAt o k' = true → ∀ q, q + 1 < jj + 1 → riseAt o q = true := fun h q hq => by
            by_cases e : q = k'
            · subst e; exact h
            · exact hn.out q (by omega)
          rw [← hkj] at hxl'
          generalize o.tables[k'] = A at *
          generalize o.tables[k' + 1] = D at *
          obtain ⟨vc, vr, rfl, hvc, hvr⟩ := hx
          obtain ⟨vc', vr', rfl, hvc', hvr'⟩ := hx'
          obtain ⟨p1, p2, rfl, _⟩ := hvc.form
          obtain ⟨p3, p4, rfl, _⟩ := hvr.form
          obtain ⟨p5, p6, rfl, _⟩ := hvc'.form
          obtain ⟨p7, p8, rfl, _⟩ := hvr'.form
          have ki : (jj : Int) - 1 = (k' : Int) := by omega
          have kw : IntKind.i64.wrap ((jj : Int) - 1) = (k' : Int) := by rw [ki]; exact IntWalk.i64_in _ (by omega)
          have kw2 : wrap64 ((jj : Int) - 1) = (k' : Int) := by rw [ki]; exact IntWalk.wrap64_in _ (by omega)
          have kp0 : (0 : Int) ≤ (k' : Int) := by omega
          have kp1 : (k' : Int) < (tn : Int) := by omega
          have jp0 : (0 : Int) ≤ (jj : Int) := by omega
          have jp1 : (jj : Int) < (tn : Int) := by omega
          have HKN := Lib.hid (show jj + 1 ≤ tn ∨ jj + 1 = 1 by omega)
          have a0 : wr.cell? ⟨b, q + k' * 5, none⟩ = _ := (hwr.below.cell (p := ⟨b, q + k' * 5 + 0, none⟩) hbl).trans (hxl 0 _ rfl)
          have a1 := (hwr.below.cell (p := ⟨b, q + k' * 5 + 1, none⟩) hbl).trans (hxl 1 _ rfl)
          have a2 := (hwr.below.cell (p := ⟨b, q + k' * 5 + 2, none⟩) hbl).trans (hxl 2 _ rfl)
          have a3 := (hwr.below.cell (p := ⟨b, q + k' * 5 + 3, none⟩) hbl).trans (hxl 3 _ rfl)
          have a4 := (hwr.below.cell (p := ⟨b, q + k' * 5 + 4, none⟩) hbl).trans (hxl 4 _ rfl)
          have hA := Gr.alloc wr (.cells #[.string A.schema, .string A.name, .string A.owner, .slice p1 A.cols.length p2, .slice p3 A.rules.length p4] 35)
          have hAb := box_five wr (.string A.schema) (.string A.name) (.string A.owner) (.slice p1 A.cols.length p2) (.slice p3 A.rules.length p4) 35
          have hsA : (wr.alloc (.cells #[.string A.schema, .string A.name, .string A.owner, .slice p1 A.cols.length p2, .slice p3 A.rules.length p4] 35)).heap.size = wr.heap.size + 1 := by simp
          have hwA := hwr.trans hA
          have y1A := cell_on hA.below y1
          have d0 : (wr.alloc (.cells #[.string A.schema, .string A.name, .string A.owner, .slice p1 A.cols.length p2, .slice p3 A.rules.length p4] 35)).cell? ⟨b, q + jj * 5, none⟩ = _ := (hwA.below.cell (p := ⟨b, q + jj * 5 + 0, none⟩) hbl).trans (hxl' 0 _ rfl)
          have d1 := (hwA.below.cell (p := ⟨b, q + jj * 5 + 1, none⟩) hbl).trans (hxl' 1 _ rfl)
          have d2 := (hwA.below.cell (p := ⟨b, q + jj * 5 + 2, none⟩) hbl).trans (hxl' 2 _ rfl)
          have d3 := (hwA.below.cell (p := ⟨b, q + jj * 5 + 3, none⟩) hbl).trans (hxl' 3 _ rfl)
          have d4 := (hwA.below.cell (p := ⟨b, q + jj * 5 + 4, none⟩) hbl).trans (hxl' 4 _ rfl)
          have hB2 := Gr.alloc (wr.alloc (.cells #[.string A.schema, .string A.name, .string A.owner, .slice p1 A.cols.length p2, .slice p3 A.rules.length p4] 35)) (.cells #[.string D.schema, .string D.name, .string D.owner, .slice p5 D.cols.length p6, .slice p7 D.rules.length p8] 35)
          have hBb := box_five (wr.alloc (.cells #[.string A.schema, .string A.name, .string A.owner, .slice p1 A.cols.length p2, .slice p3 A.rules.length p4] 35)) (.string D.schema) (.string D.name) (.string D.owner) (.slice p5 D.cols.length p6) (.slice p7 D.rules.length p8) 35
          rw [hsA] at hBb
          have e0 := cell_on hB2.below (hAb 0 _ rfl)
          have e1 := cell_on hB2.below (hAb 1 _ rfl)
          have f0 := hBb 0 _ rfl
          have f1 := hBb 1 _ rfl
          have hwB := hwA.trans hB2
          have hgB := (hgr.trans hA).trans hB2
          have hah : ahead A D = (ltT A.schema D.schema || (eqT A.schema D.schema && ltT A.name D.name)) := rfl
          rw [hah] at hat
          clear hxl hxl' hvc hvr hvc' hvr' hAb hBb hsA hah
          replace hkj := Lib.hid hkj
          obtain ⟨az, an, ao, acs, ars⟩ := A
          obtain ⟨ds, dn, dw, dcs, drs⟩ := D
          simp only at *
          cases hl : ltT az ds with
          | true =>
            have HS := Lib.hid (hst (by rw [hat, hl]; rfl))
            have el : Op.bytesLess az.toList ds.toList = true := hl
            have eqq : (az.toList == ds.toList) = false := by
              rcases hq : eqT az ds with _ | _
              · exact hq
              · rw [eqT_iff.1 hq, ltT_irr] at hl; cases hl
            clear hno hst hat hl
            go_wp2_with fail
            go_roundw
            case rel => exact ⟨jj + 1, by omega, HKN.out, by go_num, HS, hgB⟩
            case measure => simp [intOf]; omega
          | false =>
            have el : Op.bytesLess az.toList ds.toList = false := hl
            cases hq : eqT az ds with
            | false =>
              have HF := Lib.hid (hno (by rw [hat, hl, hq]; rfl))
              have eqq : (az.toList == ds.toList) = false := hq
              clear hno hst hat hl hq
              go_wp2_with fail
              go_ret
              exact ⟨by rw [HF.out]; rfl, hwB⟩
            | true =>
              have eqq : (az.toList == ds.toList) = true := hq
              cases hnl : ltT an dn with
              | true =>
                have HS := Lib.hid (hst (by rw [hat, hl, hq, hnl]; rfl))
                have enl : Op.bytesLess an.toList dn.toList = true := hnl
                clear hno hst hat hl hq hnl
                go_wp2_with fail
                go_roundw
                case rel => exact ⟨jj + 1, by omega, HKN.out, by go_num, HS, hgB⟩
                case measure => simp [intOf]; omega
              | false =>
                have HF := Lib.hid (hno (by rw [hat, hl, hq, hnl]; rfl))
                have enl : Op.bytesLess an.toList dn.toList = false := hnl
                clear hno hst hat hl hq hnl
                go_wp2_with fail
                go_ret
                exact ⟨by rw [HF.out]; rfl, hwB⟩
        · have HF := Lib.hid (HYES.out HS1.out fun q hq => hn.out q (by omega))
          go_wp2_with fail
          go_ret
          exact ⟨by rw [HF.out]; first | rfl | (simp; omega), hwr⟩
end Go.Proofs.Ytkghkioghkapcaa
