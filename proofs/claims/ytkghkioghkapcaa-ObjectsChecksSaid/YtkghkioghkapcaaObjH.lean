/-
  The document's answer for layer 7, by contract: Right.
-/
import Derived.Test.YtkghkioghkapcaaObjG
namespace Go.Proofs.Ytkghkioghkapcaa
open Go.RowKit Go.Sort

theorem rightB_at {o : Objs} {k : Nat} (h : k < o.tables.length) (hp : tabB o o.tables[k] = false) : rightB o = false := by
  unfold rightB
  have : o.tables.all (tabB o) = false := by
    rw [List.all_eq_false]
    exact ⟨o.tables[k], List.getElem_mem h, by simp [hp]⟩
  rw [this, Bool.and_false]
theorem rightB_all {o : Objs} (h1 : o.schemas.length ≤ 8) (h2 : o.tables.length ≤ 64) (h3 : rowsB o = true) (h : ∀ k (hk : k < o.tables.length), tabB o o.tables[k] = true) : rightB o = true := by
  unfold rightB
  have : o.tables.all (tabB o) = true := by
    rw [List.all_eq_true]
    intro x hx
    obtain ⟨k, hk, rfl⟩ := List.mem_iff_getElem.1 hx
    exact h k hk
  rw [this, decide_eq_true h1, decide_eq_true h2, h3]; rfl
theorem rightB_no {o : Objs} (h : (decide (o.schemas.length ≤ 8) && (decide (o.tables.length ≤ 64) && rowsB o)) = false) : rightB o = false := by
  unfold rightB
  rw [h]; rfl

set_option maxRecDepth 100000 in
set_option maxHeartbeats 16000000 in
theorem ref_right_any (B : Nat) (o : Objs) (vs vt : Value) (w : World) (ho : objP w (· < B) [vs, vt] o) (hB : B ≤ w.heap.size) :
    Calls Try.prog 17 #[.agg #[vs, vt]] w fun e w' => e = .returned (.bool (rightB o)) ∧ Gr w w' := by
  have mixed := mixed_ok
  have HO := Lib.hid ho
  obtain ⟨_, _, hv, hss, hts⟩ := ho
  simp only [List.cons.injEq, and_true] at hv
  obtain ⟨rfl, rfl⟩ := hv
  obtain ⟨sa, sc, rfl, hsc, _⟩ := hss.form
  obtain ⟨ta, tc, rfl, htc, htm⟩ := hts.form
  obtain ⟨sn, hsn⟩ : ∃ sn, o.schemas.length = sn := ⟨_, rfl⟩
  obtain ⟨tn, htn⟩ : ∃ tn, o.tables.length = tn := ⟨_, rfl⟩
  have hat := fun k => rightB_at (o := o) (k := k)
  have hall := fun (h1 : sn ≤ 8) (h2 : tn ≤ 64) => rightB_all (o := o) (by rw [hsn]; exact h1) (by rw [htn]; exact h2)
  have hnn := rightB_no (o := o)
  rw [hsn, htn] at hnn
  have HAT := Lib.hid hat; have HALL := Lib.hid hall; have HNN := Lib.hid hnn
  rw [hsn] at hss hsc HO
  rw [htn] at hts htc HO
  rw [hsn, htn]
  unfold maxLen at htm
  have HTN := Lib.hid htn
  have hbx := box_at2 w (.slice sa sn sc) (.slice ta tn tc) 26
  have hg1 := Gr.alloc w (.cells #[.slice sa sn sc, .slice ta tn tc] 26)
  have hl1 : w.heap.size < (w.alloc (.cells #[.slice sa sn sc, .slice ta tn tc] 26)).heap.size := by simp
  have HTS := Lib.hid hts
  clear hss hts hsn htn hat hall hnn
  by_cases h8 : sn ≤ 8
  · by_cases h64 : tn ≤ 64
    · have i8 : ¬ (8 : Int) < (sn : Int) := by omega
      have i64 : ¬ (64 : Int) < (tn : Int) := by omega
      go_enter Try.func17, Try.ntmps17
      go_wp2_with fail
      generalize hw1 : World.alloc w _ = w1 at *
      clear hw1
      have z0 := hbx 0 _ rfl
      have z1 := hbx 1 _ rfl
      clear hbx
      have HR1 := Lib.hid (ref_rows_any B o (.slice sa sn sc) (.slice ta tn tc) w1 (obj_keep HO.out (fun _ h => h) (hg1.keeps fun j hj => Nat.lt_of_lt_of_le hj hB)) (Nat.le_trans hB hg1.below.size))
      cases hr : rowsB o with
      | false =>
        rw [hr] at HR1
        have HF := Lib.hid (HNN.out (by rw [hr]; simp))
        clear hr
        refine HR1.out.mono ?_
        rintro e w2 ⟨rfl, hg2⟩
        go_wp2_with fail
        go_ret
        exact ⟨by rw [HF.out]; rfl, hg1.trans hg2⟩
      | true =>
        rw [hr] at HR1
        refine HR1.out.mono ?_
        rintro e w2 ⟨rfl, hg2⟩
        have y0 := cell_on hg2.below z0
        have y1 := cell_on hg2.below z1
        have hl2 : w.heap.size < w2.heap.size := Nat.lt_of_lt_of_le hl1 hg2.below.size
        have hw2 := hg1.trans hg2
        have HAL := Lib.hid (HALL.out h8 h64 hr)
        clear hr z0 z1 hl1 hg1 hg2
        go_wp2_with fail
        go_loopw [3] (fun i wr => ∃ k : Nat, k ≤ tn ∧ i = .int .i64 k ∧ Hid (∀ j (h : j < o.tables.length), j < k → tabB o o.tables[j] = true) ∧ Gr w2 wr) (fun i _ => tn - (intOf i).toNat)
        case atStart => exact ⟨0, Nat.zero_le _, rfl, Lib.hid (fun _ _ h => by omega), Gr.refl _⟩
        case round =>
          obtain ⟨k, hk, rfl, hn, hgr⟩ := hrel
          have hwr := hw2.trans hgr
          have v0 := cell_on hgr.below y0
          have v1 := cell_on hgr.below y1
          have hlr : w.heap.size < wr.heap.size := Nat.lt_of_lt_of_le hl2 hgr.below.size
          by_cases hlt : k < tn
          · have lk : k < o.tables.length := by rw [HTN.out]; exact hlt
            obtain ⟨b, q, x, rfl, hbB, hx, hxl⟩ := HTS.out.at lk
            have hbl : b < w.heap.size := Nat.lt_of_lt_of_le hbB hB
            have hbr : b < wr.heap.size := Nat.lt_of_lt_of_le hbl hwr.below.size
            have hno := HAT.out k lk
            have hst : tabB o o.tables[k] = true → ∀ j (h : j < o.tables.length), j < k + 1 → tabB o o.tables[j] = true := fun h j hj hjk => by
              by_cases e : j = k
              · subst e; exact h
              · exact hn.out j hj (by omega)
            have k0 : (0 : Int) ≤ (k : Int) := by omega
            have k1 : (k : Int) < (tn : Int) := by omega
            have HKN := Lib.hid (show k + 1 ≤ tn by omega)
            generalize o.tables[k] = t at *
            obtain ⟨vc, vr, rfl, hvc, hvr⟩ := hx
            obtain ⟨p1, p2, rfl, _⟩ := hvc.form
            obtain ⟨p3, p4, rfl, _⟩ := hvr.form
            generalize t.cols.length = cn at *
            generalize t.rules.length = rn at *
            have c0 : ∀ n' os, (grow (wr.drewN n') os).cell? ⟨b, q + k * 5, none⟩ = _ := fun n' os => cell_grown (w := wr) (a := ⟨b, q + k * 5 + 0, none⟩) hbr ((hwr.below.cell (p := ⟨b, q + k * 5 + 0, none⟩) hbl).trans (hxl 0 _ rfl)) n' os
            have c1 := fun n' os => cell_grown (w := wr) (a := ⟨b, q + k * 5 + 1, none⟩) hbr ((hwr.below.cell (p := ⟨b, q + k * 5 + 1, none⟩) hbl).trans (hxl 1 _ rfl)) n' os
            have c2 := fun n' os => cell_grown (w := wr) (a := ⟨b, q + k * 5 + 2, none⟩) hbr ((hwr.below.cell (p := ⟨b, q + k * 5 + 2, none⟩) hbl).trans (hxl 2 _ rfl)) n' os
            have c3 := fun n' os => cell_grown (w := wr) (a := ⟨b, q + k * 5 + 3, none⟩) hbr ((hwr.below.cell (p := ⟨b, q + k * 5 + 3, none⟩) hbl).trans (hxl 3 _ rfl)) n' os
            have c4 := fun n' os => cell_grown (w := wr) (a := ⟨b, q + k * 5 + 4, none⟩) hbr ((hwr.below.cell (p := ⟨b, q + k * 5 + 4, none⟩) hbl).trans (hxl 4 _ rfl)) n' os
            have f0 := fun n' os => cell_grown (w := wr) (a := ⟨w.heap.size, 0, none⟩) hlr v0 n' os
            have f1 := fun n' os => cell_grown (w := wr) (a := ⟨w.heap.size, 1, none⟩) hlr v1 n' os
            have HC := Lib.hid hvc; have HR := Lib.hid hvr
            have HT := Lib.hid (fun (W : World) (hW : Gr wr W) => ref_right1_any B o t (.slice sa sn sc) (.slice (some ⟨b, q, none⟩) tn tc) (.slice p1 cn p2) (.slice p3 rn p4) W (obj_keep HO.out (fun _ h => h) ((hwr.trans hW).keeps fun j hj => Nat.lt_of_lt_of_le hj hB)) (cols_keep HC.out (fun _ h => h) ((hwr.trans hW).keeps fun j hj => Nat.lt_of_lt_of_le hj hB)) (ruls_keep HR.out (fun _ h => h) ((hwr.trans hW).keeps fun j hj => Nat.lt_of_lt_of_le hj hB)) (Nat.le_trans hB (hwr.trans hW).below.size))
            clear hvc hvr hxl
            cases hp : tabB o t with
            | false =>
              rw [hp] at HT
              have HF := Lib.hid (hno hp)
              clear hno hst hp
              go_wp2_with fail
              refine Go.wp_region_quiet_grown mixed (by kernel_rfl) ?_
              repeat (go_big_quiet_step (first | (go_at_call 53; exact gr_from HT.out)))
              refine Go.wpQuiet_nil ?_
              intro _ hw'
              obtain ⟨⟨nq, osq⟩, hw''⟩ := hw'
              subst hw''
              go_wp2_with fail
              go_ret
              exact ⟨by rw [HF.out]; rfl, hwr.trans (Gr.grown _ _ _)⟩
            | true =>
              rw [hp] at HT
              have HS := Lib.hid (hst hp)
              clear hno hst hp
              go_wp2_with fail
              refine Go.wp_region_quiet_grown mixed (by kernel_rfl) ?_
              repeat (go_big_quiet_step (first | (go_at_call 53; exact gr_from HT.out)))
              refine Go.wpQuiet_nil ?_
              intro _ hw'
              obtain ⟨⟨nq, osq⟩, hw''⟩ := hw'
              subst hw''
              go_wp2_with fail
              go_roundw
              case rel => exact ⟨k + 1, HKN.out, by go_num, HS, hgr.trans (Gr.grown _ _ _)⟩
              case measure => have := HKN.out; simp [intOf]; omega
          · have HF := Lib.hid (HAL.out fun j hj => hn.out j hj (by rw [HTN.out] at hj; omega))
            go_wp2_with fail
            go_ret
            exact ⟨by rw [HF.out]; rfl, hwr⟩
    · have HF := Lib.hid (HNN.out (by rw [decide_eq_false h64]; simp))
      have i8 : ¬ (8 : Int) < (sn : Int) := by omega
      have i64 : (64 : Int) < (tn : Int) := by omega
      go_enter Try.func17, Try.ntmps17
      go_wp2_with fail
      go_ret
      exact ⟨by rw [HF.out]; rfl, hg1⟩
  · have HF := Lib.hid (HNN.out (by rw [decide_eq_false h8]; rfl))
    have i8 : (8 : Int) < (sn : Int) := by omega
    go_enter Try.func17, Try.ntmps17
    go_wp2_with fail
    go_ret
    exact ⟨by rw [HF.out]; rfl, hg1⟩
end Go.Proofs.Ytkghkioghkapcaa
