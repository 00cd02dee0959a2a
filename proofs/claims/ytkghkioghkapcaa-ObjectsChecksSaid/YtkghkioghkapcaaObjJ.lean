/-
  The document's answer for layer 7, by contract: Same.
-/
import Derived.Test.YtkghkioghkapcaaObjI
namespace Go.Proofs.Ytkghkioghkapcaa
open Go.RowKit Go.Sort

theorem obs_eq {A D : Objs} (h1 : A.schemas = D.schemas) (h2 : A.tables = D.tables) : decide (A = D) = true := by
  rw [decide_eq_true_eq]
  cases A; cases D
  simp only at *
  subst h1 h2
  rfl

set_option maxRecDepth 100000 in
set_option maxHeartbeats 32000000 in
theorem ref_sameobjs_any (B : Nat) (A D : Objs) (vs vt vs' vt' : Value) (w : World) (ha : objP w (· < B) [vs, vt] A) (hd : objP w (· < B) [vs', vt'] D) (hB : B ≤ w.heap.size) :
    Calls Try.prog 46 #[.agg #[vs, vt], .agg #[vs', vt']] w fun e w' => e = .returned (.bool (decide (A = D))) ∧ Gr w w' := by
  have mixed := mixed_ok
  obtain ⟨_, _, hv, hc, hr⟩ := ha
  simp only [List.cons.injEq, and_true] at hv
  obtain ⟨rfl, rfl⟩ := hv
  obtain ⟨_, _, hv', hc', hr'⟩ := hd
  simp only [List.cons.injEq, and_true] at hv'
  obtain ⟨rfl, rfl⟩ := hv'
  obtain ⟨ca, cc, rfl, hcc, hcm⟩ := hc.form
  obtain ⟨ra, rc, rfl, hrc, hrm⟩ := hr.form
  obtain ⟨ca', cc', rfl, hcc', hcm'⟩ := hc'.form
  obtain ⟨ra', rc', rfl, hrc', hrm'⟩ := hr'.form
  obtain ⟨cn, hcn⟩ : ∃ n, A.schemas.length = n := ⟨_, rfl⟩
  obtain ⟨rn, hrn⟩ : ∃ n, A.tables.length = n := ⟨_, rfl⟩
  obtain ⟨cn', hcn'⟩ : ∃ n, D.schemas.length = n := ⟨_, rfl⟩
  obtain ⟨rn', hrn'⟩ : ∃ n, D.tables.length = n := ⟨_, rfl⟩
  rw [hcn] at hc hcc
  rw [hrn] at hr hrc
  rw [hcn'] at hc' hcc'
  rw [hrn'] at hr' hrc'
  rw [hcn, hrn, hcn', hrn']
  unfold maxLen at hcm hrm hcm' hrm'
  have HNE := Lib.hid (fun (h : A ≠ D) => (decide_eq_false h : decide (A = D) = false))
  have HCN := Lib.hid hcn; have HRN := Lib.hid hrn; have HCN' := Lib.hid hcn'; have HRN' := Lib.hid hrn'
  have HC := Lib.hid hc; have HR := Lib.hid hr; have HC' := Lib.hid hc'; have HR' := Lib.hid hr'
  have HEQ := Lib.hid (obs_eq (A := A) (D := D))
  have hg1 := Gr.alloc w (.cells #[.slice ca cn cc, .slice ra rn rc] 26)
  have hb1 := box_at2 w (.slice ca cn cc) (.slice ra rn rc) 26
  have hs1 : (w.alloc (.cells #[.slice ca cn cc, .slice ra rn rc] 26)).heap.size = w.heap.size + 1 := by simp
  have hg2 := Gr.alloc (w.alloc (.cells #[.slice ca cn cc, .slice ra rn rc] 26)) (.cells #[.slice ca' cn' cc', .slice ra' rn' rc'] 26)
  have hb2 := box_at2 (w.alloc (.cells #[.slice ca cn cc, .slice ra rn rc] 26)) (.slice ca' cn' cc') (.slice ra' rn' rc') 26
  rw [hs1] at hb2
  have hs2 : ((w.alloc (.cells #[.slice ca cn cc, .slice ra rn rc] 26)).alloc (.cells #[.slice ca' cn' cc', .slice ra' rn' rc'] 26)).heap.size = w.heap.size + 2 := by simp
  have x3 := cell_on hg2.below (hb1 0 _ rfl)
  have x4 := cell_on hg2.below (hb1 1 _ rfl)
  have y3 := hb2 0 _ rfl
  have y4 := hb2 1 _ rfl
  have HG := Lib.hid (hg1.trans hg2)
  clear hb1 hb2 hs1 hg1 hg2 hc hr hc' hr' hcn hrn hcn' hrn'
  by_cases e4 : cn = cn'
  · by_cases e5 : rn = rn'
    · subst e4 e5
      go_enter Try.func46, Try.ntmps46
      go_wp2_with fail
      generalize hw2 : World.alloc (World.alloc w _) _ = w2 at *
      clear hw2
      have hw2 := HG.out
      go_loopw [5] (fun i wr => ∃ k : Nat, k ≤ cn ∧ i = .int .i64 k ∧ Hid (∀ j, j < k → A.schemas[j]? = D.schemas[j]?) ∧ Gr w2 wr) (fun i _ => cn - (intOf i).toNat)
      case atStart => exact ⟨0, Nat.zero_le _, rfl, Lib.hid (fun _ h => by omega), Gr.refl _⟩
      case round =>
        obtain ⟨k, hk, rfl, hn, hgr⟩ := hrel
        have hwr := hw2.trans hgr
        have x3' := cell_on hgr.below x3
        have x4' := cell_on hgr.below x4
        have y3' := cell_on hgr.below y3
        have y4' := cell_on hgr.below y4
        have hl0 : w.heap.size < wr.heap.size := by have := hgr.below.size; omega
        have hl1 : w.heap.size + 1 < wr.heap.size := by have := hgr.below.size; omega
        by_cases hlt : k < cn
        · have lk : k < A.schemas.length := by rw [HCN.out]; exact hlt
          have lk' : k < D.schemas.length := by rw [HCN'.out]; exact hlt
          obtain ⟨b, q, x, rfl, hbB, hx, hxl⟩ := HC.out.at lk
          obtain ⟨b', q', x', rfl, hbB', hx', hxl'⟩ := HC'.out.at lk'
          have hbl : b < w.heap.size := Nat.lt_of_lt_of_le hbB hB
          have hbl' : b' < w.heap.size := Nat.lt_of_lt_of_le hbB' hB
          have hbr : b < wr.heap.size := Nat.lt_of_lt_of_le hbl hwr.below.size
          have hbr' : b' < wr.heap.size := Nat.lt_of_lt_of_le hbl' hwr.below.size
          have hst := fun h => same_upto lk lk' hn.out h
          have hdf := fun (h : A.schemas[k] ≠ D.schemas[k]) => HNE.out (fun e => differ_at lk lk' h (by rw [e]))
          generalize A.schemas[k] = U at *
          generalize D.schemas[k] = V at *
          obtain ⟨un, uk⟩ := U
          obtain ⟨vn, vk⟩ := V
          simp only [schP] at hx hx'
          subst hx hx'
          have k0 : (0 : Int) ≤ (k : Int) := by omega
          have k1 : (k : Int) < (cn : Int) := by omega
          have HKN := Lib.hid (show k + 1 ≤ cn by omega)
          have f0 := fun n' os => cell_grown (w := wr) (a := ⟨w.heap.size, 0, none⟩) hl0 x3' n' os
          have f1 := fun n' os => cell_grown (w := wr) (a := ⟨w.heap.size + 1, 0, none⟩) hl1 y3' n' os
          have c0 : ∀ n' os, (grow (wr.drewN n') os).cell? ⟨b, q + k * 2, none⟩ = _ := fun n' os => cell_grown (w := wr) (a := ⟨b, q + k * 2 + 0, none⟩) hbr ((hwr.below.cell (p := ⟨b, q + k * 2 + 0, none⟩) hbl).trans (hxl 0 _ rfl)) n' os
          have c1 := fun n' os => cell_grown (w := wr) (a := ⟨b, q + k * 2 + 1, none⟩) hbr ((hwr.below.cell (p := ⟨b, q + k * 2 + 1, none⟩) hbl).trans (hxl 1 _ rfl)) n' os
          have d0 : ∀ n' os, (grow (wr.drewN n') os).cell? ⟨b', q' + k * 2, none⟩ = _ := fun n' os => cell_grown (w := wr) (a := ⟨b', q' + k * 2 + 0, none⟩) hbr' ((hwr.below.cell (p := ⟨b', q' + k * 2 + 0, none⟩) hbl').trans (hxl' 0 _ rfl)) n' os
          have d1 := fun n' os => cell_grown (w := wr) (a := ⟨b', q' + k * 2 + 1, none⟩) hbr' ((hwr.below.cell (p := ⟨b', q' + k * 2 + 1, none⟩) hbl').trans (hxl' 1 _ rfl)) n' os
          clear hxl hxl'
          by_cases g1 : un = vn
          · by_cases g2 : uk = vk
            · subst g1 g2
              have HS := Lib.hid (hst rfl)
              clear hst hdf
              go_wp2_with fail
              refine Go.wp_region_quiet_grown mixed (by kernel_rfl) ?_
              repeat (go_big_quiet_step (fail))
              refine Go.wpQuiet_nil ?_
              intro _ hw'
              obtain ⟨⟨nq, osq⟩, hw''⟩ := hw'
              subst hw''
              go_wp2_with fail
              go_roundw
              case rel => exact ⟨k + 1, HKN.out, by go_num, HS, hgr.trans (Gr.grown _ _ _)⟩
              case measure => have := HKN.out; simp [intOf]; omega
            · subst g1
              have HF := Lib.hid (hdf (fun e => g2 (by cases e; rfl)))
              have g2' := tl_ne' g2
              clear hst hdf
              go_wp2_with fail
              refine Go.wp_region_quiet_grown mixed (by kernel_rfl) ?_
              repeat (go_big_quiet_step (fail))
              refine Go.wpQuiet_nil ?_
              intro _ hw'
              obtain ⟨⟨nq, osq⟩, hw''⟩ := hw'
              subst hw''
              go_wp2_with fail
              go_ret
              exact ⟨by rw [HF.out]; rfl, hwr.trans (Gr.grown _ _ _)⟩
          · have HF := Lib.hid (hdf (fun e => g1 (by cases e; rfl)))
            have g1' := tl_ne' g1
            clear hst hdf
            go_wp2_with fail
            refine Go.wp_region_quiet_grown mixed (by kernel_rfl) ?_
            repeat (go_big_quiet_step (fail))
            refine Go.wpQuiet_nil ?_
            intro _ hw'
            obtain ⟨⟨nq, osq⟩, hw''⟩ := hw'
            subst hw''
            go_wp2_with fail
            go_ret
            exact ⟨by rw [HF.out]; rfl, hwr.trans (Gr.grown _ _ _)⟩
        · have HCQ := Lib.hid (same_end HCN.out HCN'.out (fun j hj => hn.out j (by omega)))
          clear hn
          go_wp2_with fail
          clear x3' y3' hl0 hl1 hlt x4' y4'
          go_loopw [6] (fun i wx => ∃ k : Nat, k ≤ rn ∧ i = .int .i64 k ∧ Hid (∀ j, j < k → A.tables[j]? = D.tables[j]?) ∧ Gr w2 wx) (fun i _ => rn - (intOf i).toNat)
          case atStart => exact ⟨0, Nat.zero_le _, rfl, Lib.hid (fun _ h => by omega), hgr⟩
          case round =>
            clear hgr hwr
            obtain ⟨k, hk, rfl, hn, hgr⟩ := hrel
            have hwr := hw2.trans hgr
            have x4' := cell_on hgr.below x4
            have y4' := cell_on hgr.below y4
            have hl0 : w.heap.size < wr.heap.size := by have := hgr.below.size; omega
            have hl1 : w.heap.size + 1 < wr.heap.size := by have := hgr.below.size; omega
            by_cases hlt : k < rn
            · have lk : k < A.tables.length := by rw [HRN.out]; exact hlt
              have lk' : k < D.tables.length := by rw [HRN'.out]; exact hlt
              obtain ⟨b, q, x, rfl, hbB, hx, hxl⟩ := HR.out.at lk
              obtain ⟨b', q', x', rfl, hbB', hx', hxl'⟩ := HR'.out.at lk'
              have hbl : b < w.heap.size := Nat.lt_of_lt_of_le hbB hB
              have hbl' : b' < w.heap.size := Nat.lt_of_lt_of_le hbB' hB
              have hbr : b < wr.heap.size := Nat.lt_of_lt_of_le hbl hwr.below.size
              have hbr' : b' < wr.heap.size := Nat.lt_of_lt_of_le hbl' hwr.below.size
              have hst := fun h => same_upto lk lk' hn.out h
              have hdf := fun (h : A.tables[k] ≠ D.tables[k]) => HNE.out (fun e => differ_at lk lk' h (by rw [e]))
              have k0 : (0 : Int) ≤ (k : Int) := by omega
              have k1 : (k : Int) < (rn : Int) := by omega
              have HKN := Lib.hid (show k + 1 ≤ rn by omega)
              clear hn hk hbB hbB'
              generalize A.tables[k] = U at *
              generalize D.tables[k] = V at *
              obtain ⟨vc, vr, rfl, hvc, hvr⟩ := hx
              obtain ⟨vc', vr', rfl, hvc', hvr'⟩ := hx'
              obtain ⟨p1, p2, rfl, _⟩ := hvc.form
              obtain ⟨p3, p4, rfl, _⟩ := hvr.form
              obtain ⟨p1', p2', rfl, _⟩ := hvc'.form
              obtain ⟨p3', p4', rfl, _⟩ := hvr'.form
              generalize U.cols.length = xn at *
              generalize U.rules.length = yn at *
              generalize V.cols.length = xn' at *
              generalize V.rules.length = yn' at *
              have c0 : ∀ n' os, (grow (wr.drewN n') os).cell? ⟨b, q + k * 5, none⟩ = _ := fun n' os => cell_grown (w := wr) (a := ⟨b, q + k * 5 + 0, none⟩) hbr ((hwr.below.cell (p := ⟨b, q + k * 5 + 0, none⟩) hbl).trans (hxl 0 _ rfl)) n' os
              have c1 := fun n' os => cell_grown (w := wr) (a := ⟨b, q + k * 5 + 1, none⟩) hbr ((hwr.below.cell (p := ⟨b, q + k * 5 + 1, none⟩) hbl).trans (hxl 1 _ rfl)) n' os
              have c2 := fun n' os => cell_grown (w := wr) (a := ⟨b, q + k * 5 + 2, none⟩) hbr ((hwr.below.cell (p := ⟨b, q + k * 5 + 2, none⟩) hbl).trans (hxl 2 _ rfl)) n' os
              have c3 := fun n' os => cell_grown (w := wr) (a := ⟨b, q + k * 5 + 3, none⟩) hbr ((hwr.below.cell (p := ⟨b, q + k * 5 + 3, none⟩) hbl).trans (hxl 3 _ rfl)) n' os
              have c4 := fun n' os => cell_grown (w := wr) (a := ⟨b, q + k * 5 + 4, none⟩) hbr ((hwr.below.cell (p := ⟨b, q + k * 5 + 4, none⟩) hbl).trans (hxl 4 _ rfl)) n' os
              have d0 : ∀ n' os, (grow (wr.drewN n') os).cell? ⟨b', q' + k * 5, none⟩ = _ := fun n' os => cell_grown (w := wr) (a := ⟨b', q' + k * 5 + 0, none⟩) hbr' ((hwr.below.cell (p := ⟨b', q' + k * 5 + 0, none⟩) hbl').trans (hxl' 0 _ rfl)) n' os
              have d1 := fun n' os => cell_grown (w := wr) (a := ⟨b', q' + k * 5 + 1, none⟩) hbr' ((hwr.below.cell (p := ⟨b', q' + k * 5 + 1, none⟩) hbl').trans (hxl' 1 _ rfl)) n' os
              have d2 := fun n' os => cell_grown (w := wr) (a := ⟨b', q' + k * 5 + 2, none⟩) hbr' ((hwr.below.cell (p := ⟨b', q' + k * 5 + 2, none⟩) hbl').trans (hxl' 2 _ rfl)) n' os
              have d3 := fun n' os => cell_grown (w := wr) (a := ⟨b', q' + k * 5 + 3, none⟩) hbr' ((hwr.below.cell (p := ⟨b', q' + k * 5 + 3, none⟩) hbl').trans (hxl' 3 _ rfl)) n' os
              have d4 := fun n' os => cell_grown (w := wr) (a := ⟨b', q' + k * 5 + 4, none⟩) hbr' ((hwr.below.cell (p := ⟨b', q' + k * 5 + 4, none⟩) hbl').trans (hxl' 4 _ rfl)) n' os
              have f0 := fun n' os => cell_grown (w := wr) (a := ⟨w.heap.size, 1, none⟩) hl0 x4' n' os
              have f1 := fun n' os => cell_grown (w := wr) (a := ⟨w.heap.size + 1, 1, none⟩) hl1 y4' n' os
              have H1 := Lib.hid hvc; have H2 := Lib.hid hvr; have H3 := Lib.hid hvc'; have H4 := Lib.hid hvr'
              have HT := Lib.hid (fun (W : World) (hW : Gr wr W) => ref_sametable_any B U V (.slice p1 xn p2) (.slice p3 yn p4) (.slice p1' xn' p2') (.slice p3' yn' p4') W (cols_keep H1.out (fun _ h => h) ((hwr.trans hW).keeps fun j hj => Nat.lt_of_lt_of_le hj hB)) (ruls_keep H2.out (fun _ h => h) ((hwr.trans hW).keeps fun j hj => Nat.lt_of_lt_of_le hj hB)) (cols_keep H3.out (fun _ h => h) ((hwr.trans hW).keeps fun j hj => Nat.lt_of_lt_of_le hj hB)) (ruls_keep H4.out (fun _ h => h) ((hwr.trans hW).keeps fun j hj => Nat.lt_of_lt_of_le hj hB)) (Nat.le_trans hB (hwr.trans hW).below.size))
              clear hvc hvr hvc' hvr' hxl hxl'
              by_cases hp : U = V
              · have HS := Lib.hid (hst hp)
                rw [decide_eq_true hp] at HT
                clear hst hdf hp
                go_wp2_with fail
                refine Go.wp_region_quiet_grown mixed (by kernel_rfl) ?_
                repeat (go_big_quiet_step (first | (go_at_call 21; exact gr_from HT.out)))
                refine Go.wpQuiet_nil ?_
                intro _ hw'
                obtain ⟨⟨nq, osq⟩, hw''⟩ := hw'
                subst hw''
                go_wp2_with fail
                go_roundw
                case rel => exact ⟨k + 1, HKN.out, by go_num, HS, hgr.trans (Gr.grown _ _ _)⟩
                case measure => have := HKN.out; simp [intOf]; omega
              · have HF := Lib.hid (hdf hp)
                rw [decide_eq_false hp] at HT
                clear hst hdf hp
                go_wp2_with fail
                refine Go.wp_region_quiet_grown mixed (by kernel_rfl) ?_
                repeat (go_big_quiet_step (first | (go_at_call 21; exact gr_from HT.out)))
                refine Go.wpQuiet_nil ?_
                intro _ hw'
                obtain ⟨⟨nq, osq⟩, hw''⟩ := hw'
                subst hw''
                go_wp2_with fail
                go_ret
                exact ⟨by rw [HF.out]; rfl, hwr.trans (Gr.grown _ _ _)⟩
            · have hrq := same_end HRN.out HRN'.out (fun j hj => hn.out j (by omega))
              have HF := Lib.hid (HEQ.out HCQ.out hrq)
              go_wp2_with fail
              go_ret
              exact ⟨by rw [HF.out]; rfl, hwr⟩
    · have i5 : ((rn : Int) == (rn' : Int)) = false := by simp; omega
      subst e4
      have HF := Lib.hid (HNE.out (fun e => e5 (by rw [← HRN.out, ← HRN'.out, e])))
      go_enter Try.func46, Try.ntmps46
      go_wp2_with fail
      go_ret
      exact ⟨by rw [HF.out]; rfl, HG.out⟩
  · have i4 : ((cn : Int) == (cn' : Int)) = false := by simp; omega
    have HF := Lib.hid (HNE.out (fun e => e4 (by rw [← HCN.out, ← HCN'.out, e])))
    go_enter Try.func46, Try.ntmps46
    go_wp2_with fail
    go_ret
    exact ⟨by rw [HF.out]; rfl, HG.out⟩
end Go.Proofs.Ytkghkioghkapcaa
