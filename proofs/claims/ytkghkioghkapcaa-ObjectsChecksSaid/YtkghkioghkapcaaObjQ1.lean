/-
  The document's answer for layer 7, by contract: Own, walked.
-/
import Derived.Test.YtkghkioghkapcaaObjQ
namespace Go.Proofs.Ytkghkioghkapcaa
open Go.RowKit Go.Sort

set_option maxRecDepth 100000 in
set_option maxHeartbeats 8000000 in
theorem ref_own_any (B : Nat) (o : Objs) (vs vt : Value) (w : World) (ho : objP w (· < B) [vs, vt] o) (hB : B ≤ w.heap.size) (hsm : smallO 3000 o) :
    Calls Try.prog 18 #[.agg #[vs, vt]] w (OwnPost w o) := by
  obtain ⟨is, si, sz0, sz1, sz2⟩ := info_parts schInfo
  obtain ⟨it, ti, tz0, tz1, tz2⟩ := info_parts tabInfo
  obtain ⟨_, _, hv, hss, hts⟩ := ho
  simp only [List.cons.injEq, and_true] at hv
  obtain ⟨rfl, rfl⟩ := hv
  obtain ⟨sa, sc, rfl, hsc, hsm'⟩ := hss.form
  obtain ⟨ta, tc, rfl, htc, htm⟩ := hts.form
  obtain ⟨sn, hsn⟩ : ∃ sn, o.schemas.length = sn := ⟨_, rfl⟩
  obtain ⟨tn, htn⟩ : ∃ tn, o.tables.length = tn := ⟨_, rfl⟩
  rw [hsn] at hss hsc
  rw [htn] at hts htc
  rw [hsn, htn]
  unfold maxLen at htm hsm'
  obtain ⟨hs3, ht3, hT⟩ := hsm
  rw [hsn] at hs3
  rw [htn] at ht3
  have HT := Lib.hid hT; have HSN := Lib.hid hsn; have HTN := Lib.hid htn
  have HTS := Lib.hid hts
  have hbw : Below w.heap.size w (((w.alloc (.cells #[.slice sa sn sc, .slice ta tn tc] 26)).alloc (.cells #[.slice none 0 0, .slice none 0 0] 26)).alloc (.cells #[.slice none 0 0, .slice none 0 0] 26)) :=
    (((Below.refl _ w).alloc (Nat.le_refl _) _).alloc (by simp) _).alloc (by simp; omega) _
  have hr0 := heap_alloc_new w (.cells #[.slice sa sn sc, .slice ta tn tc] 26)
  have hr1 := heap_alloc_new (w.alloc (.cells #[.slice sa sn sc, .slice ta tn tc] 26)) (.cells #[.slice none 0 0, .slice none 0 0] 26)
  have hr2 := heap_alloc_new ((w.alloc (.cells #[.slice sa sn sc, .slice ta tn tc] 26)).alloc (.cells #[.slice none 0 0, .slice none 0 0] 26)) (.cells #[.slice none 0 0, .slice none 0 0] 26)
  have e1 : (w.alloc (.cells #[.slice sa sn sc, .slice ta tn tc] 26)).heap.size = w.heap.size + 1 := by simp
  have e2 : ((w.alloc (.cells #[.slice sa sn sc, .slice ta tn tc] 26)).alloc (.cells #[.slice none 0 0, .slice none 0 0] 26)).heap.size = w.heap.size + 1 + 1 := by simp
  have e3 : (((w.alloc (.cells #[.slice sa sn sc, .slice ta tn tc] 26)).alloc (.cells #[.slice none 0 0, .slice none 0 0] 26)).alloc (.cells #[.slice none 0 0, .slice none 0 0] 26)).heap.size = w.heap.size + 1 + 1 + 1 := by simp
  rw [e1] at hr1
  rw [e2] at hr2
  have q0 := (Below.heap_alloc _ (.cells #[.slice none 0 0, .slice none 0 0] 26) _ (by rw [e2]; omega)).trans ((Below.heap_alloc _ (.cells #[.slice none 0 0, .slice none 0 0] 26) _ (by rw [e1]; omega)).trans hr0)
  have q1 := (Below.heap_alloc _ (.cells #[.slice none 0 0, .slice none 0 0] 26) _ (by rw [e2]; omega)).trans hr1
  have HQ0 := Lib.hid q0; have HQ1 := Lib.hid q1; have HQ2 := Lib.hid hr2; have HE := Lib.hid e3; have HBW := Lib.hid hbw
  have HC := Lib.hid (schs_keep hss (fun _ h => h) (Keeps.of_below hbw (S := (· < B)) fun k hk => Nat.lt_of_lt_of_le hk hB))
  clear hss hts hsn htn hT hbw hr0 hr1 hr2 e1 e2 e3 q0 q1
  go_enter Try.func18, Try.ntmps18
  go_wp2_with (at_builtin; refine wpList_append_all rfl _ _ 23 rfl 75 is _ 2 32 Try.underlying23 si sz0 sz1 sz2 rfl (by decide) rfl (S := (· < B)) sch_stays (fun h => h) rfl HC.out ?c1 ?_)
  case c1 => omega
  generalize World.alloc (World.alloc (World.alloc w _) _) _ = w0 at *
  intro vs2 w3 hvs hb3
  rw [HE.out.symm] at hvs hb3
  have hbW := below_on HBW.out (Nat.le_refl _) hb3
  have y0 := (hb3.block w.heap.size (lt_of_block HQ0.out)).trans HQ0.out
  have y1 := (hb3.block (w.heap.size + 1) (lt_of_block HQ1.out)).trans HQ1.out
  have y2 := (hb3.block (w.heap.size + 1 + 1) (lt_of_block HQ2.out)).trans HQ2.out
  have hl3 : w.heap.size + 1 + 1 + 1 ≤ w3.heap.size := by have := hb3.size; have := HE.out; omega
  rw [HE.out] at hvs
  obtain ⟨va, vcap, rfl, _, _⟩ := hvs.form
  rw [HSN.out] at hvs ⊢
  have x2 := box_at y2 0 rfl
  have x2z := frozen_of_row _ (w.heap.size + 1 + 1) 0 _ _ y2
  have hkS : Keeps (· ≠ w.heap.size + 1 + 1) w3 (w3.setCell ⟨w.heap.size + 1 + 1, 0, none⟩ (.slice va sn vcap)) := Keeps.refl.setCell (by simp) _
  have hfill : Filled (w3.setCell ⟨w.heap.size + 1 + 1, 0, none⟩ (.slice va sn vcap)) (w.heap.size + 1 + 1) (.slice va sn vcap) (.slice none 0 0) [] (w3.setCell ⟨w.heap.size + 1 + 1, 0, none⟩ (.slice va sn vcap)) :=
    ⟨heap_setCell_same _ _ 0 _ _ _ y2, OwnX.nil _ _ _ _ _, Keeps.refl, by simp [World.setCell]; omega⟩
  have HF := Lib.hid hfill
  have HVS := Lib.hid (hvs.keep sch_stays hkS fun k hk => by have := hk.1; omega)
  have hss : (w3.setCell ⟨w.heap.size + 1 + 1, 0, none⟩ (.slice va sn vcap)).heap.size = w3.heap.size := by simp [World.setCell]
  have z0 := hkS.row y0 (by omega)
  have z1 := hkS.row y1 (by omega)
  have hBS : Below w.heap.size w (w3.setCell ⟨w.heap.size + 1 + 1, 0, none⟩ (.slice va sn vcap)) := hbW.trans (hkS.below hbW.size fun j hj => by omega)
  have HBS := Lib.hid hBS; have HZ0 := Lib.hid z0; have HZ1 := Lib.hid z1
  clear hvs hb3 hbW y0 y1 y2 hkS hfill z0 z1 hBS HQ0 HQ1 HQ2 HC HBW
  go_wp2_with fail
  clear x2 x2z
  generalize World.setCell w3 _ _ = wS at *
  go_loopw [4] (fun i wr => ∃ (k : Nat), k ≤ tn ∧ i = .int .i64 k ∧ Hid (∃ vt, Filled wS (w.heap.size + 1 + 1) (.slice va sn vcap) vt (o.tables.take k) wr)) (fun i _ => tn - (intOf i).toNat)
  case atStart => exact ⟨0, Nat.zero_le _, rfl, Lib.hid ⟨_, by rw [List.take_zero]; exact HF.out⟩⟩
  case round =>
    obtain ⟨k, hk, rfl, hrel⟩ := hrel
    obtain ⟨vt, hfl⟩ := hrel.out
    clear hrel
    obtain ⟨hbx, hox, hkk, hpl⟩ := hfl
    have u0 := hkk.row HZ0.out ⟨by omega, by omega⟩
    have HFL : Hid (Filled wS (w.heap.size + 1 + 1) (.slice va sn vcap) vt (o.tables.take k) wr.drew) := Lib.hid ⟨hbx, hox.keep tab_stays (Keeps.refl.drew (S := fun _ => True)) fun _ _ => trivial, hkk.drew, hpl⟩
    have v1 := box_at u0 1 rfl
    have v2 := box_at hbx 1 rfl
    have hwr : Below w.heap.size w wr := HBS.out.trans (hkk.below HBS.out.size fun j hj => ⟨by omega, by omega⟩)
    have hwl : w.heap.size + 1 + 1 + 1 ≤ wr.heap.size := by have := hkk.size; omega
    by_cases hlt : k < tn
    · have lk : k < o.tables.length := by rw [HTN.out]; exact hlt
      obtain ⟨b, q, x, rfl, hbB, hxr, hxl⟩ := HTS.out.at lk
      have hbl : b < w.heap.size := Nat.lt_of_lt_of_le hbB hB
      have k0 : (0 : Int) ≤ (k : Int) := by omega
      have k1 : (k : Int) < (tn : Int) := by omega
      have HKN := Lib.hid (show k + 1 ≤ tn by omega)
      have hsT := HT.out k lk
      have HTK := Lib.hid (show o.tables.take (k + 1) = o.tables.take k ++ [o.tables[k]] from List.take_succ_eq_append_getElem lk)
      generalize o.tables[k] = t at *
      obtain ⟨vc, vr, rfl, hvc, hvr⟩ := hxr
      have c0 : wr.cell? ⟨b, q + k * 5, none⟩ = _ := (hwr.cell (p := ⟨b, q + k * 5 + 0, none⟩) hbl).trans (hxl 0 _ rfl)
      have c1 := (hwr.cell (p := ⟨b, q + k * 5 + 1, none⟩) hbl).trans (hxl 1 _ rfl)
      have c2 := (hwr.cell (p := ⟨b, q + k * 5 + 2, none⟩) hbl).trans (hxl 2 _ rfl)
      have c3 := (hwr.cell (p := ⟨b, q + k * 5 + 3, none⟩) hbl).trans (hxl 3 _ rfl)
      have c4 := (hwr.cell (p := ⟨b, q + k * 5 + 4, none⟩) hbl).trans (hxl 4 _ rfl)
      have hcp := ref_copy_any B t vc vr wr.drew (cols_keep hvc (fun _ h => h) (Keeps.of_below (below_drawn hwr 1) (S := (· < B)) fun j hj => Nat.lt_of_lt_of_le hj hB)) (ruls_keep hvr (fun _ h => h) (Keeps.of_below (below_drawn hwr 1) (S := (· < B)) fun j hj => Nat.lt_of_lt_of_le hj hB)) (Nat.le_trans hB (by have := hwr.size; simpa using this)) hsT
      have HCP := Lib.hid hcp
      have hkl : (o.tables.take k).length = k := by rw [List.length_take, HTN.out]; omega
      have HKL := Lib.hid hkl
      obtain ⟨a1, cap1, rfl, _, _⟩ := hox.form
      rw [hkl] at HFL v2
      have hpw : w.heap.size + 1 + 1 < wr.heap.size := by omega
      have HM1 : Hid (k + 1 ≤ maxLen) := Lib.hid (by unfold maxLen; omega)
      have HM2 : Hid ((k + 1) * 96 ≤ 140737488355328) := Lib.hid (by omega)
      have hSr : wS.heap.size ≤ wr.heap.size := hkk.size
      clear hxl hvc hvr hcp hkl hox hkk hbx u0 hpl
      go_wp2_with fail
      go_region_law (first
        | (go_simp
           refine HCP.out.mono ?_
           rintro e w4 ⟨vc', vr', rfl, hc', hr', hb4⟩
           obtain ⟨d1, xs, hown, hnext⟩ := filled_next HFL.out hc' hr' hb4
           rw [HKL.out] at hown hnext
           have d1l : w.heap.size + 1 + 1 < w4.heap.size := World.block_lt_of_cell? w4 _ d1
           have HOW := Lib.hid (hown (.cells #[.string t.schema, .string t.name, .string t.owner, vc', vr'] 35))
           have HNX := Lib.hid hnext
           have HNC := Lib.hid (cells_fresh w4 [.string t.schema, .string t.name, .string t.owner, vc', vr'] 35)
           have HON : Hid (∀ u ∈ [Value.string t.schema, .string t.name, .string t.owner, vc', vr'], u.oneCell' = true) := Lib.hid (by
             intro u hu; simp at hu
             obtain ⟨_, _, rfl, _, _⟩ := hc'.form
             obtain ⟨_, _, rfl, _, _⟩ := hr'.form
             rcases hu with rfl | rfl | rfl | rfl | rfl <;> rfl)
           have HM3 : Hid (wS.heap.size ≤ (w4.alloc (.cells #[.string t.schema, .string t.name, .string t.owner, vc', vr'] 35)).heap.size) := Lib.hid (by have := hb4.size; simp at this ⊢; omega)
           have HM4 : Hid ((w4.alloc (.cells #[.string t.schema, .string t.name, .string t.owner, vc', vr'] 35)).heap.size = w4.heap.size + 1) := Lib.hid (by simp)
           clear hc' hr' hb4 hown hnext)
        | (refine step_append_lies _ rfl (.tmp 20) (.tmp 27) 24 rfl wS.heap.size 35 it (.agg #[.string ⟨#[]⟩, .string ⟨#[]⟩, .string ⟨#[]⟩, .slice none 0 0, .slice none 0 0]) 5 96 Try.underlying24 ti tz0 tz1 tz2 rfl (by omega) (.slice a1 k cap1) k xs rfl HOW.out ⟨w4.heap.size, 0, none⟩ 1 1 [.string t.schema, .string t.name, .string t.owner, vc', vr'] rfl rfl HNC.out HON.out (by omega) HM1.out HM2.out HM3.out (w4.heap.size + 1) HM4.out ?_
           intro g6 cap6 w6 hown6 hg6 hat6 hlt6
           obtain ⟨d2, dz, hfl6⟩ := HNX.out _ w6 _ hown6 hg6 (by rcases hat6 with e | e; exact .inl e.symm; exact .inr (by rw [e]; rfl))
           have HF6 := Lib.hid hfl6
           clear hown6 hg6 hat6 hlt6 hfl6))
      all_goals
        go_wp2_with fail
        go_roundw
        case rel => exact ⟨k + 1, HKN.out, by go_num, Lib.hid ⟨_, by rw [HTK.out]; exact HF6.out⟩⟩
        case measure => have := HKN.out; simp [intOf]; omega
    · have hkr : k = tn := by omega
      subst hkr
      have htk : o.tables.take k = o.tables := List.take_of_length_le (by rw [HTN.out]; exact Nat.le_refl _)
      rw [htk] at hox
      have hu1 := hkk.row HZ1.out ⟨by omega, by omega⟩
      have v0 := box_at hbx 0 rfl
      obtain ⟨a1, cap1, rfl, _, _⟩ := hox.form
      rw [HTN.out] at hox hbx v2 v0 HFL
      have HI : Hid ((Try.prog.info? 26).map (·.size) = some 2) := Lib.hid (by kernel_rfl)
      have HO2 : Hid ((#[.slice va sn vcap, .slice a1 k cap1] : Array Value).all (·.oneCell') = true) := Lib.hid (by kernel_rfl)
      have HG := Lib.hid hu1
      have HROW := Lib.hid (setRow_heap _ _ _ #[.slice va sn vcap, .slice a1 k cap1] _ _ hu1)
      have HOX := Lib.hid hox; have HKK := Lib.hid hkk
      clear hox hkk hbx u0 hu1
      go_wp2_with (refine wpList_store_box rfl 26 _ _ rfl (w.heap.size + 1) 26 _ #[.slice va sn vcap, .slice a1 k cap1] rfl rfl HG.out HI.out rfl HO2.out ?_)
      refine bodyPost_ret (results_cell_row rfl _ _ (w.heap.size + 1) _ _ (0, 0) _ rfl HROW.out Try.underlying26 rfl HI.out) rfl ?_
      have hkB : Keeps (fun j => j ≠ w.heap.size + 1) wr (wr.setRow (w.heap.size + 1) #[.slice va sn vcap, .slice a1 k cap1]) := ⟨rfl, rfl, rfl, by simp, fun j _ hj => setRow_other _ _ _ _ hj⟩
      have hvs1 := HVS.out.keep sch_stays HKK.out fun j hj => ⟨hj.lt, by have := hj.1; omega⟩
      exact ⟨_, _, rfl, ⟨(hvs1.keep sch_stays hkB fun j hj => by have := hj.1; omega).mono sch_stays (by omega), (HOX.out.keep tab_stays hkB fun j hj => by have := hj.1; omega).mono tab_stays (by omega)⟩,
        hwr.trans (hkB.below (by have := hwr.size; omega) fun j hj => by omega)⟩
end Go.Proofs.Ytkghkioghkapcaa
