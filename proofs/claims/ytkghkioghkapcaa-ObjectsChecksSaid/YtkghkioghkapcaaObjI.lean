/-
  The document's answer for layer 7, by contract: SameTable.
-/
import Derived.Test.YtkghkioghkapcaaObjH
namespace Go.Proofs.Ytkghkioghkapcaa
open Go.RowKit Go.Sort

theorem same_upto {α : Type} {l m : List α} {k : Nat} (h1 : k < l.length) (h2 : k < m.length) (h : ∀ j, j < k → l[j]? = m[j]?) (e : l[k] = m[k]) : ∀ j, j < k + 1 → l[j]? = m[j]? := fun j hj => by
  by_cases ej : j = k
  · subst ej; rw [List.getElem?_eq_getElem h1, List.getElem?_eq_getElem h2, e]
  · exact h j (by omega)
theorem same_end {α : Type} {l m : List α} {n : Nat} (h1 : l.length = n) (h2 : m.length = n) (h : ∀ j, j < n → l[j]? = m[j]?) : l = m := by
  apply List.ext_getElem?
  intro j
  by_cases hj : j < n
  · exact h j hj
  · rw [List.getElem?_eq_none (by omega), List.getElem?_eq_none (by omega)]
theorem differ_at {α : Type} {l m : List α} {k : Nat} (h1 : k < l.length) (h2 : k < m.length) (e : l[k] ≠ m[k]) : l ≠ m := fun h => by
  subst h; exact e rfl
theorem tl_ne {a b : ByteArray} (h : a ≠ b) : (a.toList == b.toList) = false := eqT_no.2 h
theorem tl_ne' {a b : ByteArray} (h : a ≠ b) : ¬ a.toList = b.toList := fun e => h (toList_inj e)

theorem tab_eq {A D : Tab} (h1 : A.schema = D.schema) (h2 : A.name = D.name) (h3 : A.owner = D.owner) (h4 : A.cols = D.cols) (h5 : A.rules = D.rules) : decide (A = D) = true := by
  rw [decide_eq_true_eq]
  cases A; cases D
  simp only at *
  subst h1 h2 h3 h4 h5
  rfl
theorem rul_eq {A D : Rul} (h1 : A.name = D.name) (h2 : A.kind = D.kind) (h3 : A.cols = D.cols) (h4 : A.low = D.low) (h5 : A.high = D.high) (h6 : A.schema = D.schema) (h7 : A.table = D.table) (h8 : A.key = D.key) : A = D := by
  cases A; cases D
  simp only at *
  subst h1 h2 h3 h4 h5 h6 h7 h8
  rfl
theorem col_eq {A D : Col} (h1 : A.name = D.name) (h2 : A.kind = D.kind) (h3 : A.null = D.null) : A = D := by
  cases A; cases D
  simp only at *
  subst h1 h2 h3
  rfl

set_option maxRecDepth 100000 in
set_option maxHeartbeats 32000000 in
theorem ref_sametable_any (B : Nat) (A D : Tab) (vc vr vc' vr' : Value) (w : World) (hc : Lst w (· < B) colP 3 vc A.cols) (hr : Lst w (· < B) (rulP w (· < B)) 8 vr A.rules) (hc' : Lst w (· < B) colP 3 vc' D.cols) (hr' : Lst w (· < B) (rulP w (· < B)) 8 vr' D.rules) (hB : B ≤ w.heap.size) :
    Calls Try.prog 21 #[.agg #[.string A.schema, .string A.name, .string A.owner, vc, vr], .agg #[.string D.schema, .string D.name, .string D.owner, vc', vr']] w fun e w' => e = .returned (.bool (decide (A = D))) ∧ Gr w w' := by
  have mixed := mixed_ok
  obtain ⟨ca, cc, rfl, hcc, hcm⟩ := hc.form
  obtain ⟨ra, rc, rfl, hrc, hrm⟩ := hr.form
  obtain ⟨ca', cc', rfl, hcc', hcm'⟩ := hc'.form
  obtain ⟨ra', rc', rfl, hrc', hrm'⟩ := hr'.form
  obtain ⟨cn, hcn⟩ : ∃ n, A.cols.length = n := ⟨_, rfl⟩
  obtain ⟨rn, hrn⟩ : ∃ n, A.rules.length = n := ⟨_, rfl⟩
  obtain ⟨cn', hcn'⟩ : ∃ n, D.cols.length = n := ⟨_, rfl⟩
  obtain ⟨rn', hrn'⟩ : ∃ n, D.rules.length = n := ⟨_, rfl⟩
  rw [hcn] at hc hcc
  rw [hrn] at hr hrc
  rw [hcn'] at hc' hcc'
  rw [hrn'] at hr' hrc'
  rw [hcn, hrn, hcn', hrn']
  unfold maxLen at hcm hrm hcm' hrm'
  have HNE := Lib.hid (fun (h : A ≠ D) => (decide_eq_false h : decide (A = D) = false))
  have HCN := Lib.hid hcn; have HRN := Lib.hid hrn; have HCN' := Lib.hid hcn'; have HRN' := Lib.hid hrn'
  have HC := Lib.hid hc; have HR := Lib.hid hr; have HC' := Lib.hid hc'; have HR' := Lib.hid hr'
  have HEQ := Lib.hid (tab_eq (A := A) (D := D))
  have hg1 := Gr.alloc w (.cells #[.string A.schema, .string A.name, .string A.owner, .slice ca cn cc, .slice ra rn rc] 35)
  have hb1 := box_five w (.string A.schema) (.string A.name) (.string A.owner) (.slice ca cn cc) (.slice ra rn rc) 35
  have hs1 : (w.alloc (.cells #[.string A.schema, .string A.name, .string A.owner, .slice ca cn cc, .slice ra rn rc] 35)).heap.size = w.heap.size + 1 := by simp
  have hg2 := Gr.alloc (w.alloc (.cells #[.string A.schema, .string A.name, .string A.owner, .slice ca cn cc, .slice ra rn rc] 35)) (.cells #[.string D.schema, .string D.name, .string D.owner, .slice ca' cn' cc', .slice ra' rn' rc'] 35)
  have hb2 := box_five (w.alloc (.cells #[.string A.schema, .string A.name, .string A.owner, .slice ca cn cc, .slice ra rn rc] 35)) (.string D.schema) (.string D.name) (.string D.owner) (.slice ca' cn' cc') (.slice ra' rn' rc') 35
  rw [hs1] at hb2
  have hs2 : ((w.alloc (.cells #[.string A.schema, .string A.name, .string A.owner, .slice ca cn cc, .slice ra rn rc] 35)).alloc (.cells #[.string D.schema, .string D.name, .string D.owner, .slice ca' cn' cc', .slice ra' rn' rc'] 35)).heap.size = w.heap.size + 2 := by simp
  have x0 := cell_on hg2.below (hb1 0 _ rfl)
  have x1 := cell_on hg2.below (hb1 1 _ rfl)
  have x2 := cell_on hg2.below (hb1 2 _ rfl)
  have x3 := cell_on hg2.below (hb1 3 _ rfl)
  have x4 := cell_on hg2.below (hb1 4 _ rfl)
  have y0 := hb2 0 _ rfl
  have y1 := hb2 1 _ rfl
  have y2 := hb2 2 _ rfl
  have y3 := hb2 3 _ rfl
  have y4 := hb2 4 _ rfl
  have HG := Lib.hid (hg1.trans hg2)
  clear hb1 hb2 hs1 hg1 hg2 hc hr hc' hr' hcn hrn hcn' hrn'
  by_cases e1 : A.schema = D.schema
  · have q1 : (A.schema.toList == D.schema.toList) = true := eqT_iff.2 e1
    replace e1 := Lib.hid e1
    by_cases e2 : A.name = D.name
    · have q2 : (A.name.toList == D.name.toList) = true := eqT_iff.2 e2
      replace e2 := Lib.hid e2
      by_cases e3 : A.owner = D.owner
      · have q3 : (A.owner.toList == D.owner.toList) = true := eqT_iff.2 e3
        replace e3 := Lib.hid e3
        by_cases e4 : cn = cn'
        · by_cases e5 : rn = rn'
          · subst e4 e5
            go_enter Try.func21, Try.ntmps21
            go_wp2_with fail
            generalize hw2 : World.alloc (World.alloc w _) _ = w2 at *
            clear hw2 x0 x1 x2 y0 y1 y2 q1 q2 q3
            have hw2 := HG.out
            go_loopw [5] (fun i wr => ∃ k : Nat, k ≤ cn ∧ i = .int .i64 k ∧ Hid (∀ j, j < k → A.cols[j]? = D.cols[j]?) ∧ Gr w2 wr) (fun i _ => cn - (intOf i).toNat)
            case atStart => exact ⟨0, Nat.zero_le _, rfl, Lib.hid (fun _ h => by omega), Gr.refl _⟩
            case round =>
              obtain ⟨k, hk, rfl, hn, hgr⟩ := hrel
              have hwr := hw2.trans hgr
              have x3' := cell_on hgr.below x3
              have x4' := cell_on hgr.below x4
              have y3' := cell_on hgr.below y3
              have y4' := cell_on hgr.below y4
              have hl0 : w.heap.size < wr.heap.size := by have := hgr.below.size; omega
              have hl1 : w.heap.size + 1 < wr.heap.size := by have := hgr.below.size; omega
              by_cases hlt : k < cn
              · have lk : k < A.cols.length := by rw [HCN.out]; exact hlt
                have lk' : k < D.cols.length := by rw [HCN'.out]; exact hlt
                obtain ⟨b, q, x, rfl, hbB, hx, hxl⟩ := HC.out.at lk
                obtain ⟨b', q', x', rfl, hbB', hx', hxl'⟩ := HC'.out.at lk'
                have hbl : b < w.heap.size := Nat.lt_of_lt_of_le hbB hB
                have hbl' : b' < w.heap.size := Nat.lt_of_lt_of_le hbB' hB
                have hbr : b < wr.heap.size := Nat.lt_of_lt_of_le hbl hwr.below.size
                have hbr' : b' < wr.heap.size := Nat.lt_of_lt_of_le hbl' hwr.below.size
                have hst := fun h => same_upto lk lk' hn.out h
                have hdf := fun (h : A.cols[k] ≠ D.cols[k]) => HNE.out (fun e => differ_at lk lk' h (by rw [e]))
                have hxe := hx
                generalize A.cols[k] = U at *
                generalize D.cols[k] = V at *
                obtain ⟨un, uk, ub⟩ := U
                obtain ⟨vn, vk, vb⟩ := V
                simp only [colP] at hx hx'
                subst hx hx'
                have k0 : (0 : Int) ≤ (k : Int) := by omega
                have k1 : (k : Int) < (cn : Int) := by omega
                have HKN := Lib.hid (show k + 1 ≤ cn by omega)
                have f0 := fun n' os => cell_grown (w := wr) (a := ⟨w.heap.size, 3, none⟩) hl0 x3' n' os
                have f1 := fun n' os => cell_grown (w := wr) (a := ⟨w.heap.size + 1, 3, none⟩) hl1 y3' n' os
                have c0 : ∀ n' os, (grow (wr.drewN n') os).cell? ⟨b, q + k * 3, none⟩ = _ := fun n' os => cell_grown (w := wr) (a := ⟨b, q + k * 3 + 0, none⟩) hbr ((hwr.below.cell (p := ⟨b, q + k * 3 + 0, none⟩) hbl).trans (hxl 0 _ rfl)) n' os
                have c1 := fun n' os => cell_grown (w := wr) (a := ⟨b, q + k * 3 + 1, none⟩) hbr ((hwr.below.cell (p := ⟨b, q + k * 3 + 1, none⟩) hbl).trans (hxl 1 _ rfl)) n' os
                have c2 := fun n' os => cell_grown (w := wr) (a := ⟨b, q + k * 3 + 2, none⟩) hbr ((hwr.below.cell (p := ⟨b, q + k * 3 + 2, none⟩) hbl).trans (hxl 2 _ rfl)) n' os
                have d0 : ∀ n' os, (grow (wr.drewN n') os).cell? ⟨b', q' + k * 3, none⟩ = _ := fun n' os => cell_grown (w := wr) (a := ⟨b', q' + k * 3 + 0, none⟩) hbr' ((hwr.below.cell (p := ⟨b', q' + k * 3 + 0, none⟩) hbl').trans (hxl' 0 _ rfl)) n' os
                have d1 := fun n' os => cell_grown (w := wr) (a := ⟨b', q' + k * 3 + 1, none⟩) hbr' ((hwr.below.cell (p := ⟨b', q' + k * 3 + 1, none⟩) hbl').trans (hxl' 1 _ rfl)) n' os
                have d2 := fun n' os => cell_grown (w := wr) (a := ⟨b', q' + k * 3 + 2, none⟩) hbr' ((hwr.below.cell (p := ⟨b', q' + k * 3 + 2, none⟩) hbl').trans (hxl' 2 _ rfl)) n' os
                clear hxl hxl' hxe
                by_cases g1 : un = vn
                · by_cases g2 : uk = vk
                  · by_cases g3 : ub = vb
                    · subst g1 g2 g3
                      have HS := Lib.hid (hst rfl)
                      clear hst hdf
                      go_wp2_with fail
                      refine Go.wp_region_quiet_grown mixed (by kernel_rfl) ?_
                      repeat (go_big_quiet_step (fail))
                      refine Go.wpQuiet_nil ?_
                      intro _ hw'
                      obtain ⟨⟨nq, osq⟩, hw''⟩ := hw'
                      subst hw''
                      go_wp2_with fail
                      go_roundw
                      case rel => exact ⟨k + 1, HKN.out, by go_num, HS, hgr.trans (Gr.grown _ _ _)⟩
                      case measure => have := HKN.out; simp [intOf]; omega
                    · subst g1 g2
                      have HF := Lib.hid (hdf (fun e => g3 (by cases e; rfl)))
                      clear hst hdf
                      go_wp2_with fail
                      refine Go.wp_region_quiet_grown mixed (by kernel_rfl) ?_
                      repeat (go_big_quiet_step (fail))
                      refine Go.wpQuiet_nil ?_
                      intro _ hw'
                      obtain ⟨⟨nq, osq⟩, hw''⟩ := hw'
                      subst hw''
                      go_wp2_with fail
                      go_ret
                      exact ⟨by rw [HF.out]; rfl, hwr.trans (Gr.grown _ _ _)⟩
                  · subst g1
                    have HF := Lib.hid (hdf (fun e => g2 (by cases e; rfl)))
                    clear hst hdf
                    go_wp2_with fail
                    refine Go.wp_region_quiet_grown mixed (by kernel_rfl) ?_
                    repeat (go_big_quiet_step (fail))
                    refine Go.wpQuiet_nil ?_
                    intro _ hw'
                    obtain ⟨⟨nq, osq⟩, hw''⟩ := hw'
                    subst hw''
                    go_wp2_with fail
                    go_ret
                    exact ⟨by rw [HF.out]; rfl, hwr.trans (Gr.grown _ _ _)⟩
                · have HF := Lib.hid (hdf (fun e => g1 (by cases e; rfl)))
                  have g1' := tl_ne' g1
                  clear hst hdf
                  go_wp2_with fail
                  refine Go.wp_region_quiet_grown mixed (by kernel_rfl) ?_
                  repeat (go_big_quiet_step (fail))
                  refine Go.wpQuiet_nil ?_
                  intro _ hw'
                  obtain ⟨⟨nq, osq⟩, hw''⟩ := hw'
                  subst hw''
                  go_wp2_with fail
                  go_ret
                  exact ⟨by rw [HF.out]; rfl, hwr.trans (Gr.grown _ _ _)⟩
              · have HCQ := Lib.hid (same_end HCN.out HCN'.out (fun j hj => hn.out j (by omega)))
                clear hn
                go_wp2_with fail
                clear x3' y3' hl0 hl1 hlt x4' y4'
                go_loopw [6] (fun i wx => ∃ k : Nat, k ≤ rn ∧ i = .int .i64 k ∧ Hid (∀ j, j < k → A.rules[j]? = D.rules[j]?) ∧ Gr w2 wx) (fun i _ => rn - (intOf i).toNat)
                case atStart => exact ⟨0, Nat.zero_le _, rfl, Lib.hid (fun _ h => by omega), hgr⟩
                case round =>
                  clear hgr hwr
                  obtain ⟨k, hk, rfl, hn, hgr⟩ := hrel
                  have hwr := hw2.trans hgr
                  have x4' := cell_on hgr.below x4
                  have y4' := cell_on hgr.below y4
                  have hl2 : w.heap.size + 2 ≤ wr.heap.size := by have := hgr.below.size; omega
                  by_cases hlt : k < rn
                  · have lk : k < A.rules.length := by rw [HRN.out]; exact hlt
                    have lk' : k < D.rules.length := by rw [HRN'.out]; exact hlt
                    obtain ⟨b, q, x, rfl, hbB, hx, hxl⟩ := HR.out.at lk
                    obtain ⟨b', q', x', rfl, hbB', hx', hxl'⟩ := HR'.out.at lk'
                    have hbl : b < w.heap.size := Nat.lt_of_lt_of_le hbB hB
                    have hbl' : b' < w.heap.size := Nat.lt_of_lt_of_le hbB' hB
                    have hst := fun h => same_upto lk lk' hn.out h
                    have hdf := fun (h : A.rules[k] ≠ D.rules[k]) => HNE.out (fun e => differ_at lk lk' h (by rw [e]))
                    generalize A.rules[k] = U at *
                    generalize D.rules[k] = V at *
                    obtain ⟨rv, rfl, hrv⟩ := hx
                    obtain ⟨rv', rfl, hrv'⟩ := hx'
                    obtain ⟨va, vp, rfl, hv1, hv2⟩ := hrv.form
                    obtain ⟨va', vp', rfl, hv1', hv2'⟩ := hrv'.form
                    obtain ⟨vn, hvn⟩ : ∃ n, U.cols.length = n := ⟨_, rfl⟩
                    obtain ⟨vn', hvn'⟩ : ∃ n, V.cols.length = n := ⟨_, rfl⟩
                    rw [hvn] at hrv hxl hv1
                    rw [hvn'] at hrv' hxl' hv1'
                    unfold maxLen at hv2 hv2'
                    have HUV := Lib.hid (rul_eq (A := U) (D := V))
                    have HRV := Lib.hid hrv; have HRV' := Lib.hid hrv'; have HVN := Lib.hid hvn; have HVN' := Lib.hid hvn'
                    obtain ⟨u0, u1, u2', u3, u4', u5, u6, u7⟩ := U
                    obtain ⟨v0, v1, v2, v3, v4, v5, v6, v7⟩ := V
                    simp only at *
                    have k0 : (0 : Int) ≤ (k : Int) := by omega
                    have k1 : (k : Int) < (rn : Int) := by omega
                    have HKN := Lib.hid (show k + 1 ≤ rn by omega)
                    have c0 : wr.cell? ⟨b, q + k * 8, none⟩ = _ := (hwr.below.cell (p := ⟨b, q + k * 8 + 0, none⟩) hbl).trans (hxl 0 _ rfl)
                    have c1 := (hwr.below.cell (p := ⟨b, q + k * 8 + 1, none⟩) hbl).trans (hxl 1 _ rfl)
                    have c2 := (hwr.below.cell (p := ⟨b, q + k * 8 + 2, none⟩) hbl).trans (hxl 2 _ rfl)
                    have c3 := (hwr.below.cell (p := ⟨b, q + k * 8 + 3, none⟩) hbl).trans (hxl 3 _ rfl)
                    have c4 := (hwr.below.cell (p := ⟨b, q + k * 8 + 4, none⟩) hbl).trans (hxl 4 _ rfl)
                    have c5 := (hwr.below.cell (p := ⟨b, q + k * 8 + 5, none⟩) hbl).trans (hxl 5 _ rfl)
                    have c6 := (hwr.below.cell (p := ⟨b, q + k * 8 + 6, none⟩) hbl).trans (hxl 6 _ rfl)
                    have c7 := (hwr.below.cell (p := ⟨b, q + k * 8 + 7, none⟩) hbl).trans (hxl 7 _ rfl)
                    have hg3 := Gr.alloc wr (.cells #[.string u0, .int .i64 u1, .slice va vn vp, .int .i64 u3, .int .i64 u4', .string u5, .string u6, .string u7] 56)
                    have hb3 := box_rule wr (.string u0) (.int .i64 u1) (.slice va vn vp) (.int .i64 u3) (.int .i64 u4') (.string u5) (.string u6) (.string u7) 56
                    have hs3 : (wr.alloc (.cells #[.string u0, .int .i64 u1, .slice va vn vp, .int .i64 u3, .int .i64 u4', .string u5, .string u6, .string u7] 56)).heap.size = wr.heap.size + 1 := by simp
                    have hwA := hwr.trans hg3
                    have yA := cell_on hg3.below y4'
                    have d0 : (wr.alloc (.cells #[.string u0, .int .i64 u1, .slice va vn vp, .int .i64 u3, .int .i64 u4', .string u5, .string u6, .string u7] 56)).cell? ⟨b', q' + k * 8, none⟩ = _ := (hwA.below.cell (p := ⟨b', q' + k * 8 + 0, none⟩) hbl').trans (hxl' 0 _ rfl)
                    have d1 := (hwA.below.cell (p := ⟨b', q' + k * 8 + 1, none⟩) hbl').trans (hxl' 1 _ rfl)
                    have d2 := (hwA.below.cell (p := ⟨b', q' + k * 8 + 2, none⟩) hbl').trans (hxl' 2 _ rfl)
                    have d3 := (hwA.below.cell (p := ⟨b', q' + k * 8 + 3, none⟩) hbl').trans (hxl' 3 _ rfl)
                    have d4 := (hwA.below.cell (p := ⟨b', q' + k * 8 + 4, none⟩) hbl').trans (hxl' 4 _ rfl)
                    have d5 := (hwA.below.cell (p := ⟨b', q' + k * 8 + 5, none⟩) hbl').trans (hxl' 5 _ rfl)
                    have d6 := (hwA.below.cell (p := ⟨b', q' + k * 8 + 6, none⟩) hbl').trans (hxl' 6 _ rfl)
                    have d7 := (hwA.below.cell (p := ⟨b', q' + k * 8 + 7, none⟩) hbl').trans (hxl' 7 _ rfl)
                    have hg4 := Gr.alloc (wr.alloc (.cells #[.string u0, .int .i64 u1, .slice va vn vp, .int .i64 u3, .int .i64 u4', .string u5, .string u6, .string u7] 56)) (.cells #[.string v0, .int .i64 v1, .slice va' vn' vp', .int .i64 v3, .int .i64 v4, .string v5, .string v6, .string v7] 56)
                    have hb4 := box_rule (wr.alloc (.cells #[.string u0, .int .i64 u1, .slice va vn vp, .int .i64 u3, .int .i64 u4', .string u5, .string u6, .string u7] 56)) (.string v0) (.int .i64 v1) (.slice va' vn' vp') (.int .i64 v3) (.int .i64 v4) (.string v5) (.string v6) (.string v7) 56
                    rw [hs3] at hb4
                    have m0 := cell_on hg4.below (hb3 0 _ rfl)
                    have m1 := cell_on hg4.below (hb3 1 _ rfl)
                    have m2 := cell_on hg4.below (hb3 2 _ rfl)
                    have m3 := cell_on hg4.below (hb3 3 _ rfl)
                    have m4 := cell_on hg4.below (hb3 4 _ rfl)
                    have m5 := cell_on hg4.below (hb3 5 _ rfl)
                    have m6 := cell_on hg4.below (hb3 6 _ rfl)
                    have m7 := cell_on hg4.below (hb3 7 _ rfl)
                    have o0 := hb4 0 _ rfl
                    have o1 := hb4 1 _ rfl
                    have o2 := hb4 2 _ rfl
                    have o3 := hb4 3 _ rfl
                    have o4 := hb4 4 _ rfl
                    have o5 := hb4 5 _ rfl
                    have o6 := hb4 6 _ rfl
                    have o7 := hb4 7 _ rfl
                    have hwB := hwA.trans hg4
                    have hgB := (hgr.trans hg3).trans hg4
                    have hszB : ((wr.alloc (.cells #[.string u0, .int .i64 u1, .slice va vn vp, .int .i64 u3, .int .i64 u4', .string u5, .string u6, .string u7] 56)).alloc (.cells #[.string v0, .int .i64 v1, .slice va' vn' vp', .int .i64 v3, .int .i64 v4, .string v5, .string v6, .string v7] 56)).heap.size = wr.heap.size + 2 := by simp
                    clear hxl hxl' hb3 hb4 hs3 hrv hrv' hvn hvn'
                    have HWB := Lib.hid hwB; have HGB := Lib.hid hgB
                    clear hwB hgB hg3 hg4 hwA
                    by_cases r0 : u0 = v0
                    · subst r0
                      by_cases r1 : u1 = v1
                      · subst r1
                        by_cases r2 : u3 = v3
                        · subst r2
                          by_cases r3 : u4' = v4
                          · subst r3
                            by_cases r4 : u5 = v5
                            · subst r4
                              by_cases r5 : u6 = v6
                              · subst r5
                                by_cases r6 : u7 = v7
                                · subst r6
                                  by_cases r7 : vn = vn'
                                  · subst r7
                                    have hst' := fun h => hst (HUV.out rfl rfl h rfl rfl rfl rfl rfl)
                                    have hdf' := fun (h : u2' ≠ v2) => hdf (fun e => h (by cases e; rfl))
                                    have HST := Lib.hid hst'; have HDF := Lib.hid hdf'
                                    clear hst hdf hst' hdf'
                                    go_wp2_with fail
                                    generalize hwB' : World.alloc (World.alloc wr _) _ = wB at *
                                    clear hwB' c0 c1 c2 c3 c4 c5 c6 c7 d0 d1 d2 d3 d4 d5 d6 d7 m0 m1 m3 m4 m5 m6 m7 o0 o1 o3 o4 o5 o6 o7 x4' y4' yA
                                    have hlB0 : wr.heap.size < wB.heap.size := by omega
                                    have hlB1 : wr.heap.size + 1 < wB.heap.size := by omega
                                    have hsw : w.heap.size ≤ wB.heap.size := by omega
                                    clear hgr hwr hszB hl2
                                    generalize wr.heap.size = p0 at *
                                    clear HUV hbB hbB' hn lk lk' hlt hk
                                    go_loopw [9] (fun i wx => ∃ m : Nat, m ≤ vn ∧ i = .int .i64 m ∧ Hid (∀ j, j < m → u2'[j]? = v2[j]?) ∧ Gr wB wx) (fun i _ => vn - (intOf i).toNat)
                                    case atStart => exact ⟨0, Nat.zero_le _, rfl, Lib.hid (fun _ h => by omega), Gr.refl _⟩
                                    case round =>
                                      obtain ⟨m, hm, rfl, hnm, hgx⟩ := hrel
                                      have hwx := HWB.out.trans hgx
                                      have m2' := cell_on hgx.below m2
                                      have o2' := cell_on hgx.below o2
                                      have hxs := hgx.below.size
                                      by_cases hltm : m < vn
                                      · have lm : m < u2'.length := by rw [HVN.out]; exact hltm
                                        have lm' : m < v2.length := by rw [HVN'.out]; exact hltm
                                        obtain ⟨sb, sq, x, rfl, hsB, hx, hxl⟩ := HRV.out.at lm
                                        obtain ⟨sb', sq', x', rfl, hsB', hx', hxl'⟩ := HRV'.out.at lm'
                                        have hsl : sb < w.heap.size := Nat.lt_of_lt_of_le hsB hB
                                        have hsl' : sb' < w.heap.size := Nat.lt_of_lt_of_le hsB' hB
                                        have hsr : sb < wr.heap.size := Nat.lt_of_lt_of_le hsl hwx.below.size
                                        have hsr' : sb' < wr.heap.size := Nat.lt_of_lt_of_le hsl' hwx.below.size
                                        have hp0 : p0 < wr.heap.size := Nat.lt_of_lt_of_le hlB0 hxs
                                        have hp1 : p0 + 1 < wr.heap.size := Nat.lt_of_lt_of_le hlB1 hxs
                                        have z0 := (hwx.below.cell (p := ⟨sb, sq + m * 1 + 0, none⟩) hsl).trans (hxl 0 (.string u2'[m]) (by rw [hx]; rfl))
                                        have z1 := (hwx.below.cell (p := ⟨sb', sq' + m * 1 + 0, none⟩) hsl').trans (hxl' 0 (.string v2[m]) (by rw [hx']; rfl))
                                        simp only [Nat.mul_one, Nat.add_zero] at z0 z1
                                        have hmst := fun h => same_upto lm lm' hnm.out h
                                        have hmdf := fun (h : u2'[m] ≠ v2[m]) => HDF.out (fun e => differ_at lm lm' h e)
                                        have j0 : (0 : Int) ≤ (m : Int) := by omega
                                        have j1 : (m : Int) < (vn : Int) := by omega
                                        have HMN := Lib.hid (show m + 1 ≤ vn by omega)
                                        clear hx hx' hxl hxl' hsB hsB' hnm
                                        generalize u2'[m] = s1 at *
                                        generalize v2[m] = s2 at *
                                        have e0 := fun n' os => cell_grown (w := wr) (a := ⟨p0, 2, none⟩) hp0 m2' n' os
                                        have e1' := fun n' os => cell_grown (w := wr) (a := ⟨p0 + 1, 2, none⟩) hp1 o2' n' os
                                        have e2' := fun n' os => cell_grown (w := wr) (a := ⟨sb, sq + m, none⟩) hsr z0 n' os
                                        have e3' := fun n' os => cell_grown (w := wr) (a := ⟨sb', sq' + m, none⟩) hsr' z1 n' os
                                        by_cases hss : s1 = s2
                                        · subst hss
                                          have HS := Lib.hid (hmst rfl)
                                          clear hmst hmdf
                                          go_wp2_with fail
                                          refine Go.wp_region_quiet_grown mixed (by kernel_rfl) ?_
                                          repeat (go_big_quiet_step (fail))
                                          refine Go.wpQuiet_nil ?_
                                          intro _ hw'
                                          obtain ⟨⟨nq, osq⟩, hw''⟩ := hw'
                                          subst hw''
                                          go_wp2_with fail
                                          go_roundw
                                          case rel => exact ⟨m + 1, HMN.out, by go_num, HS, hgx.trans (Gr.grown _ _ _)⟩
                                          case measure => have := HMN.out; simp [intOf]; omega
                                        · have HF := Lib.hid (hmdf hss)
                                          have hss' := tl_ne hss
                                          clear hmst hmdf
                                          go_wp2_with fail
                                          refine Go.wp_region_quiet_grown mixed (by kernel_rfl) ?_
                                          repeat (go_big_quiet_step (fail))
                                          refine Go.wpQuiet_nil ?_
                                          intro _ hw'
                                          obtain ⟨⟨nq, osq⟩, hw''⟩ := hw'
                                          subst hw''
                                          go_wp2_with fail
                                          go_ret
                                          exact ⟨by rw [HF.out]; rfl, hwx.trans (Gr.grown _ _ _)⟩
                                      · have HS := Lib.hid (HST.out (same_end HVN.out HVN'.out (fun j hj => hnm.out j (by omega))))
                                        clear hnm
                                        go_wp2_with fail
                                        go_roundw
                                        case rel => exact ⟨k + 1, HKN.out, by go_num, HS, HGB.out.trans hgx⟩
                                        case measure => have := HKN.out; simp [intOf]; omega
                                  · have r7x : ((vn : Int) == (vn' : Int)) = false := by simp; omega
                                    have HF := Lib.hid (hdf (fun e => r7 (by cases e; rw [← HVN.out, ← HVN'.out])))
                                    clear hst hdf
                                    go_wp2_with fail
                                    go_ret
                                    exact ⟨by rw [HF.out]; rfl, HWB.out⟩
                                · have r6x := tl_ne r6
                                  have HF := Lib.hid (hdf (fun e => r6 (by cases e; rfl)))
                                  clear hst hdf
                                  go_wp2_with fail
                                  go_ret
                                  exact ⟨by rw [HF.out]; rfl, HWB.out⟩
                              · have r5x := tl_ne r5
                                have HF := Lib.hid (hdf (fun e => r5 (by cases e; rfl)))
                                clear hst hdf
                                go_wp2_with fail
                                go_ret
                                exact ⟨by rw [HF.out]; rfl, HWB.out⟩
                            · have r4x := tl_ne r4
                              have HF := Lib.hid (hdf (fun e => r4 (by cases e; rfl)))
                              clear hst hdf
                              go_wp2_with fail
                              go_ret
                              exact ⟨by rw [HF.out]; rfl, HWB.out⟩
                          · have r3x : (u4' == v4) = false := by simpa using r3
                            have HF := Lib.hid (hdf (fun e => r3 (by cases e; rfl)))
                            clear hst hdf
                            go_wp2_with fail
                            go_ret
                            exact ⟨by rw [HF.out]; rfl, HWB.out⟩
                        · have r2x : (u3 == v3) = false := by simpa using r2
                          have HF := Lib.hid (hdf (fun e => r2 (by cases e; rfl)))
                          clear hst hdf
                          go_wp2_with fail
                          go_ret
                          exact ⟨by rw [HF.out]; rfl, HWB.out⟩
                      · have r1x : (u1 == v1) = false := by simpa using r1
                        have HF := Lib.hid (hdf (fun e => r1 (by cases e; rfl)))
                        clear hst hdf
                        go_wp2_with fail
                        go_ret
                        exact ⟨by rw [HF.out]; rfl, HWB.out⟩
                    · have r0x := tl_ne r0
                      have HF := Lib.hid (hdf (fun e => r0 (by cases e; rfl)))
                      clear hst hdf
                      go_wp2_with fail
                      go_ret
                      exact ⟨by rw [HF.out]; rfl, HWB.out⟩
                  · have hrq := same_end HRN.out HRN'.out (fun j hj => hn.out j (by omega))
                    have HF := Lib.hid (HEQ.out e1.out e2.out e3.out HCQ.out hrq)
                    go_wp2_with fail
                    go_ret
                    exact ⟨by rw [HF.out]; rfl, hwr⟩
          · have i5 : ((rn : Int) == (rn' : Int)) = false := by simp; omega
            subst e4
            have HF := Lib.hid (HNE.out (fun e => e5 (by rw [← HRN.out, ← HRN'.out, e])))
            go_enter Try.func21, Try.ntmps21
            go_wp2_with fail
            go_ret
            exact ⟨by rw [HF.out]; rfl, HG.out⟩
        · have i4 : ((cn : Int) == (cn' : Int)) = false := by simp; omega
          have HF := Lib.hid (HNE.out (fun e => e4 (by rw [← HCN.out, ← HCN'.out, e])))
          go_enter Try.func21, Try.ntmps21
          go_wp2_with fail
          go_ret
          exact ⟨by rw [HF.out]; rfl, HG.out⟩
      · have i3 := tl_ne e3
        have HF := Lib.hid (HNE.out (fun e => e3 (by rw [e])))
        go_enter Try.func21, Try.ntmps21
        go_wp2_with fail
        go_ret
        exact ⟨by rw [HF.out]; rfl, HG.out⟩
    · have i2 := tl_ne e2
      have HF := Lib.hid (HNE.out (fun e => e2 (by rw [e])))
      go_enter Try.func21, Try.ntmps21
      go_wp2_with fail
      go_ret
      exact ⟨by rw [HF.out]; rfl, HG.out⟩
  · have i1 := tl_ne e1
    have HF := Lib.hid (HNE.out (fun e => e1 (by rw [e])))
    go_enter Try.func21, Try.ntmps21
    go_wp2_with fail
    go_ret
    exact ⟨by rw [HF.out]; rfl, HG.out⟩
end Go.Proofs.Ytkghkioghkapcaa
