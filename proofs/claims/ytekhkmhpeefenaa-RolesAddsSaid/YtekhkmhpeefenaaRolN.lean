/-
  Layer 8, by contract: the document's Same; folkmootkeep.Texts.
-/
import Derived.Test.YtekhkmhpeefenaaRolF
namespace Go.Proofs.Ytekhkmhpeefenaa
set_option linter.unusedVariables false
open Go.RowKit Go.Sort Go.Shelf

theorem lists_eq {α : Type} {l m : List α} {n : Nat} (hl : l.length = n) (hm : m.length = n) (h : ∀ j, j < n → l[j]? = m[j]?) : l = m := by
  apply List.ext_getElem?
  intro i
  by_cases hi : i < n
  · exact h i hi
  · rw [List.getElem?_eq_none (by omega), List.getElem?_eq_none (by omega)]
theorem upto_same {α : Type} {l m : List α} {k : Nat} (hl : k < l.length) (hm : k < m.length) (h : ∀ j, j < k → l[j]? = m[j]?) (he : l[k] = m[k]) : ∀ j, j < k + 1 → l[j]? = m[j]? := fun j hj => by
  by_cases e : j = k
  · subst e; rw [List.getElem?_eq_getElem hl, List.getElem?_eq_getElem hm, he]
  · exact h j (by omega)
theorem get_ne {α : Type} {l m : List α} {k : Nat} (hl : k < l.length) (hm : k < m.length) (he : l[k] ≠ m[k]) : l ≠ m := fun e => he (by subst e; rfl)

set_option maxRecDepth 100000 in
set_option maxHeartbeats 8000000 in
theorem keep_texts_any (B : Nat) (a : Option Addr) (n c : Nat) (a' : Option Addr) (n' c' : Nat) (l m : List ByteArray) (w : World) (h : Lst w (· < B) strP 1 (.slice a n c) l) (h' : Lst w (· < B) strP 1 (.slice a' n' c') m) (hB : B ≤ w.heap.size) :
    Calls Try.prog 27 #[.slice a n c, .slice a' n' c'] w fun e w' => e = .returned (.bool (decide (l = m))) ∧ Gr w w' := by
  have mixed := mixed_ok
  obtain ⟨hl, hc, hcm⟩ := h.len
  obtain ⟨hl', hc', hcm'⟩ := h'.len
  unfold maxLen at hcm hcm'
  by_cases hnn : n = n'
  · subst hnn
    have HH := Lib.hid h; have HH' := Lib.hid h'; have HL := Lib.hid hl; have HL' := Lib.hid hl'
    clear h h' hl hl'
    go_enter Try.func27, Try.ntmps27
    go_wp2_with fail
    go_loopw [5] (fun i wr => ∃ k : Nat, k ≤ n ∧ i = .int .i64 k ∧ Hid (∀ j, j < k → l[j]? = m[j]?) ∧ Gr w wr) (fun i _ => n - (intOf i).toNat)
    case atStart => exact ⟨0, Nat.zero_le _, rfl, Lib.hid (fun _ h => by omega), Gr.refl _⟩
    case round =>
      obtain ⟨k, hk, rfl, hn, hgr⟩ := hrel
      by_cases hlt : k < n
      · have lk : k < l.length := by rw [HL.out]; exact hlt
        have lk' : k < m.length := by rw [HL'.out]; exact hlt
        obtain ⟨b, o, x, rfl, hbB, hx, hcl⟩ := HH.out.at lk
        obtain ⟨b', o', x', rfl, hbB', hx', hcl'⟩ := HH'.out.at lk'
        have hst := fun h => upto_same lk lk' hn.out h
        have hne := fun h => get_ne lk lk' h
        have k0 : (0 : Int) ≤ (k : Int) := by omega
        have k1 : (k : Int) < (n : Int) := by omega
        have hbl : b < w.heap.size := Nat.lt_of_lt_of_le hbB hB
        have hbl' : b' < w.heap.size := Nat.lt_of_lt_of_le hbB' hB
        generalize l[k] = y at *
        generalize m[k] = z at *
        obtain rfl : x = [.string y] := hx
        obtain rfl : x' = [.string z] := hx'
        have c0 : wr.cell? ⟨b, o + k, none⟩ = some (.string y) := by have := (hgr.below.cell (p := ⟨b, o + k * 1 + 0, none⟩) hbl).trans (hcl 0 _ rfl); simpa using this
        have d0 : wr.cell? ⟨b', o' + k, none⟩ = some (.string z) := by have := (hgr.below.cell (p := ⟨b', o' + k * 1 + 0, none⟩) hbl').trans (hcl' 0 _ rfl); simpa using this
        have f0 := fun n' os => cell_grown (w := wr) (a := ⟨b, o + k, none⟩) (Nat.lt_of_lt_of_le hbl hgr.below.size) c0 n' os
        have f1 := fun n' os => cell_grown (w := wr) (a := ⟨b', o' + k, none⟩) (Nat.lt_of_lt_of_le hbl' hgr.below.size) d0 n' os
        have HKN := Lib.hid (show k + 1 ≤ n by omega)
        clear hcl hcl' c0 d0 hn
        cases hq : eqT y z with
        | true =>
          have HS := Lib.hid (hst (eqT_iff.1 hq))
          have e1 : (y.toList == z.toList) = true := hq
          clear hst hne hq
          go_wp2_with fail
          refine Go.wp_region_quiet_grown mixed (by kernel_rfl) ?_
          repeat (go_big_quiet_step (fail))
          refine Go.wpQuiet_nil ?_
          intro _ hw'
          obtain ⟨⟨nq, osq⟩, hw''⟩ := hw'
          subst hw''
          go_wp2_with fail
          go_roundw
          case rel => exact ⟨_, HKN.out, by go_num, HS, hgr.trans (Gr.grown _ _ _)⟩
          case measure => have := HKN.out; simp [intOf]; omega
        | false =>
          have HF := Lib.hid (decide_eq_false (hne (eqT_no.1 hq)) : decide (l = m) = false)
          have e1 : (y.toList == z.toList) = false := hq
          clear hst hne hq
          go_wp2_with fail
          refine Go.wp_region_quiet_grown mixed (by kernel_rfl) ?_
          repeat (go_big_quiet_step (fail))
          refine Go.wpQuiet_nil ?_
          intro _ hw'
          obtain ⟨⟨nq, osq⟩, hw''⟩ := hw'
          subst hw''
          go_wp2_with fail
          go_ret
          exact ⟨by rw [HF.out]; rfl, hgr.trans (Gr.grown _ _ _)⟩
      · have HF := Lib.hid (decide_eq_true (lists_eq HL.out HL'.out fun j hj => hn.out j (by omega)) : decide (l = m) = true)
        clear hn
        go_wp2_with fail
        go_ret
        exact ⟨by rw [HF.out]; rfl, hgr⟩
  · have i1 : ((n : Int) == (n' : Int)) = false := by simp; omega
    have i2 : ((n : Int) != (n' : Int)) = true := by simp; omega
    have HF := Lib.hid (decide_eq_false (fun e : l = m => hnn (by rw [← hl, ← hl', e])) : decide (l = m) = false)
    clear h h' hl hl'
    go_enter Try.func27, Try.ntmps27
    go_wp2_with fail
    go_ret
    exact ⟨by rw [HF.out]; rfl, Gr.refl _⟩

theorem rols_eq {a d : Rols} (h1 : a.names = d.names) (h2 : a.mems = d.mems) : a = d := by cases a; cases d; simp_all
theorem mem_beq (P : Program) (u v : Mem) : u = v ↔ u.role = v.role ∧ u.of = v.of := by cases u; cases v; simp

set_option maxRecDepth 100000 in
set_option maxHeartbeats 16000000 in
theorem ref_rsame_any (B : Nat) (A D : Rols) (vn vm vn' vm' : Value) (w : World) (ha : rolP w (· < B) [vn, vm] A) (hd : rolP w (· < B) [vn', vm'] D) (hB : B ≤ w.heap.size) :
    Calls Try.prog 31 #[.agg #[vn, vm], .agg #[vn', vm']] w fun e w' => e = .returned (.bool (decide (A = D))) ∧ Gr w w' := by
  have mixed := mixed_ok
  obtain ⟨na, nn, nc, ma, mn, mc, rfl, rfl, hnn, hmn, hnc, hmc, hnc2, hmc2, hn, hm⟩ := rol_form ha
  obtain ⟨na', nn', nc', ma', mn', mc', rfl, rfl, hnn', hmn', hnc', hmc', hnc2', hmc2', hn', hm'⟩ := rol_form hd
  unfold maxLen at hnc2 hmc2 hnc2' hmc2'
  have HNE := Lib.hid (fun (h : A ≠ D) => (decide_eq_false h : decide (A = D) = false))
  have HNN := Lib.hid hnn; have HMN := Lib.hid hmn; have HNN' := Lib.hid hnn'; have HMN' := Lib.hid hmn'
  have HN := Lib.hid hn; have HM := Lib.hid hm; have HN' := Lib.hid hn'; have HM' := Lib.hid hm'
  have hg1 := Gr.alloc w (.cells #[.slice na nn nc, .slice ma mn mc] 25)
  have hb1 := box_at2 w (.slice na nn nc) (.slice ma mn mc) 25
  have hs1 : (w.alloc (.cells #[.slice na nn nc, .slice ma mn mc] 25)).heap.size = w.heap.size + 1 := by simp
  have hg2 := Gr.alloc (w.alloc (.cells #[.slice na nn nc, .slice ma mn mc] 25)) (.cells #[.slice na' nn' nc', .slice ma' mn' mc'] 25)
  have hb2 := box_at2 (w.alloc (.cells #[.slice na nn nc, .slice ma mn mc] 25)) (.slice na' nn' nc') (.slice ma' mn' mc') 25
  rw [hs1] at hb2
  have hs2 : ((w.alloc (.cells #[.slice na nn nc, .slice ma mn mc] 25)).alloc (.cells #[.slice na' nn' nc', .slice ma' mn' mc'] 25)).heap.size = w.heap.size + 2 := by simp
  have x3 := cell_on hg2.below (hb1 0 _ rfl)
  have x4 := cell_on hg2.below (hb1 1 _ rfl)
  have y3 := hb2 0 _ rfl
  have y4 := hb2 1 _ rfl
  have HG := Lib.hid (hg1.trans hg2)
  clear hb1 hb2 hs1 hg1 hg2 hn hm hn' hm' hnn hmn hnn' hmn' ha hd
  by_cases e4 : nn = nn'
  · by_cases e5 : mn = mn'
    · subst e4 e5
      go_enter Try.func31, Try.ntmps31
      go_wp2_with fail
      generalize hw2 : World.alloc (World.alloc w _) _ = w2 at *
      clear hw2
      have hw2 := HG.out
      go_loopw [5] (fun i wr => ∃ k : Nat, k ≤ nn ∧ i = .int .i64 k ∧ Hid (∀ j, j < k → A.names[j]? = D.names[j]?) ∧ Gr w2 wr) (fun i _ => nn - (intOf i).toNat)
      case atStart => exact ⟨0, Nat.zero_le _, rfl, Lib.hid (fun _ h => by omega), Gr.refl _⟩
      case round =>
        obtain ⟨k, hk, rfl, hn, hgr⟩ := hrel
        have hwr := hw2.trans hgr
        have x3' := cell_on hgr.below x3
        have x4' := cell_on hgr.below x4
        have y3' := cell_on hgr.below y3
        have y4' := cell_on hgr.below y4
        have hl0 : w.heap.size < wr.heap.size := by have := hgr.below.size; omega
        have hl1 : w.heap.size + 1 < wr.heap.size := by have := hgr.below.size; omega
        by_cases hlt : k < nn
        · have lk : k < A.names.length := by rw [HNN.out]; exact hlt
          have lk' : k < D.names.length := by rw [HNN'.out]; exact hlt
          obtain ⟨b, q, x, rfl, hbB, hx, hxl⟩ := HN.out.at lk
          obtain ⟨b', q', x', rfl, hbB', hx', hxl'⟩ := HN'.out.at lk'
          have hbl : b < w.heap.size := Nat.lt_of_lt_of_le hbB hB
          have hbl' : b' < w.heap.size := Nat.lt_of_lt_of_le hbB' hB
          have hst := fun h => upto_same lk lk' hn.out h
          have hdf := fun h => HNE.out (fun e => get_ne lk lk' h (by rw [e]))
          generalize A.names[k] = y at *
          generalize D.names[k] = z at *
          obtain rfl : x = [.string y] := hx
          obtain rfl : x' = [.string z] := hx'
          have k0 : (0 : Int) ≤ (k : Int) := by omega
          have k1 : (k : Int) < (nn : Int) := by omega
          have HKN := Lib.hid (show k + 1 ≤ nn by omega)
          have c0 : wr.cell? ⟨b, q + k, none⟩ = some (.string y) := by have := (hwr.below.cell (p := ⟨b, q + k * 1 + 0, none⟩) hbl).trans (hxl 0 _ rfl); simpa using this
          have d0 : wr.cell? ⟨b', q' + k, none⟩ = some (.string z) := by have := (hwr.below.cell (p := ⟨b', q' + k * 1 + 0, none⟩) hbl').trans (hxl' 0 _ rfl); simpa using this
          have f0 := fun n' os => cell_grown (w := wr) (a := ⟨w.heap.size, 0, none⟩) hl0 x3' n' os
          have f1 := fun n' os => cell_grown (w := wr) (a := ⟨w.heap.size + 1, 0, none⟩) hl1 y3' n' os
          have f2 := fun n' os => cell_grown (w := wr) (a := ⟨b, q + k, none⟩) (Nat.lt_of_lt_of_le hbl hwr.below.size) c0 n' os
          have f3 := fun n' os => cell_grown (w := wr) (a := ⟨b', q' + k, none⟩) (Nat.lt_of_lt_of_le hbl' hwr.below.size) d0 n' os
          clear hxl hxl' c0 d0 hn
          cases hq : eqT y z with
          | true =>
            have HS := Lib.hid (hst (eqT_iff.1 hq))
            have e1 : (y.toList == z.toList) = true := hq
            clear hst hdf hq
            go_wp2_with fail
            refine Go.wp_region_quiet_grown mixed (by kernel_rfl) ?_
            repeat (go_big_quiet_step (fail))
            refine Go.wpQuiet_nil ?_
            intro _ hw'
            obtain ⟨⟨nq, osq⟩, hw''⟩ := hw'
            subst hw''
            go_wp2_with fail
            go_roundw
            case rel => exact ⟨k + 1, HKN.out, by go_num, HS, hgr.trans (Gr.grown _ _ _)⟩
            case measure => have := HKN.out; simp [intOf]; omega
          | false =>
            have HF := Lib.hid (hdf (eqT_no.1 hq))
            have e1 : (y.toList == z.toList) = false := hq
            clear hst hdf hq
            go_wp2_with fail
            refine Go.wp_region_quiet_grown mixed (by kernel_rfl) ?_
            repeat (go_big_quiet_step (fail))
            refine Go.wpQuiet_nil ?_
            intro _ hw'
            obtain ⟨⟨nq, osq⟩, hw''⟩ := hw'
            subst hw''
            go_wp2_with fail
            go_ret
            exact ⟨by rw [HF.out]; rfl, hwr.trans (Gr.grown _ _ _)⟩
        · have HCQ := Lib.hid (lists_eq HNN.out HNN'.out (fun j hj => hn.out j (by omega)))
          clear hn
          go_wp2_with fail
          clear x3' y3' hl0 hl1 hlt x4' y4'
          go_loopw [6] (fun i wx => ∃ k : Nat, k ≤ mn ∧ i = .int .i64 k ∧ Hid (∀ j, j < k → A.mems[j]? = D.mems[j]?) ∧ Gr w2 wx) (fun i _ => mn - (intOf i).toNat)
          case atStart => exact ⟨0, Nat.zero_le _, rfl, Lib.hid (fun _ h => by omega), hgr⟩
          case round =>
            clear hgr hwr
            obtain ⟨k, hk, rfl, hn, hgr⟩ := hrel
            have hwr := hw2.trans hgr
            have x4' := cell_on hgr.below x4
            have y4' := cell_on hgr.below y4
            have hl0 : w.heap.size < wr.heap.size := by have := hgr.below.size; omega
            have hl1 : w.heap.size + 1 < wr.heap.size := by have := hgr.below.size; omega
            by_cases hlt : k < mn
            · have lk : k < A.mems.length := by rw [HMN.out]; exact hlt
              have lk' : k < D.mems.length := by rw [HMN'.out]; exact hlt
              obtain ⟨b, q, x, rfl, hbB, hx, hxl⟩ := HM.out.at lk
              obtain ⟨b', q', x', rfl, hbB', hx', hxl'⟩ := HM'.out.at lk'
              have hbl : b < w.heap.size := Nat.lt_of_lt_of_le hbB hB
              have hbl' : b' < w.heap.size := Nat.lt_of_lt_of_le hbB' hB
              have hst := fun h => upto_same lk lk' hn.out h
              have hdf := fun h => HNE.out (fun e => get_ne lk lk' h (by rw [e]))
              generalize A.mems[k] = U at *
              generalize D.mems[k] = V at *
              obtain ⟨ur, uo⟩ := U
              obtain ⟨vr, vo⟩ := V
              obtain rfl : x = [.string ur, .string uo] := hx
              obtain rfl : x' = [.string vr, .string vo] := hx'
              have k0 : (0 : Int) ≤ (k : Int) := by omega
              have k1 : (k : Int) < (mn : Int) := by omega
              have HKN := Lib.hid (show k + 1 ≤ mn by omega)
              have f0 := fun n' os => cell_grown (w := wr) (a := ⟨w.heap.size, 1, none⟩) hl0 x4' n' os
              have f1 := fun n' os => cell_grown (w := wr) (a := ⟨w.heap.size + 1, 1, none⟩) hl1 y4' n' os
              have c0 : ∀ n' os, (grow (wr.drewN n') os).cell? ⟨b, q + k * 2, none⟩ = _ := fun n' os => cell_grown (w := wr) (a := ⟨b, q + k * 2 + 0, none⟩) (Nat.lt_of_lt_of_le hbl hwr.below.size) ((hwr.below.cell (p := ⟨b, q + k * 2 + 0, none⟩) hbl).trans (hxl 0 _ rfl)) n' os
              have c1 := fun n' os => cell_grown (w := wr) (a := ⟨b, q + k * 2 + 1, none⟩) (Nat.lt_of_lt_of_le hbl hwr.below.size) ((hwr.below.cell (p := ⟨b, q + k * 2 + 1, none⟩) hbl).trans (hxl 1 _ rfl)) n' os
              have d0 : ∀ n' os, (grow (wr.drewN n') os).cell? ⟨b', q' + k * 2, none⟩ = _ := fun n' os => cell_grown (w := wr) (a := ⟨b', q' + k * 2 + 0, none⟩) (Nat.lt_of_lt_of_le hbl' hwr.below.size) ((hwr.below.cell (p := ⟨b', q' + k * 2 + 0, none⟩) hbl').trans (hxl' 0 _ rfl)) n' os
              have d1 := fun n' os => cell_grown (w := wr) (a := ⟨b', q' + k * 2 + 1, none⟩) (Nat.lt_of_lt_of_le hbl' hwr.below.size) ((hwr.below.cell (p := ⟨b', q' + k * 2 + 1, none⟩) hbl').trans (hxl' 1 _ rfl)) n' os
              clear hxl hxl' hn
              cases hq1 : eqT ur vr with
              | true =>
                have e1 : (ur.toList == vr.toList) = true := hq1
                cases hq2 : eqT uo vo with
                | true =>
                  have e2 : (uo.toList == vo.toList) = true := hq2
                  have HS := Lib.hid (hst (by rw [eqT_iff.1 hq1, eqT_iff.1 hq2]))
                  clear hst hdf hq1 hq2
                  go_wp2_with fail
                  refine Go.wp_region_quiet_grown mixed (by kernel_rfl) ?_
                  repeat (go_big_quiet_step (fail))
                  refine Go.wpQuiet_nil ?_
                  intro _ hw'
                  obtain ⟨⟨nq, osq⟩, hw''⟩ := hw'
                  subst hw''
                  go_wp2_with fail
                  go_roundw
                  case rel => exact ⟨k + 1, HKN.out, by go_num, HS, hgr.trans (Gr.grown _ _ _)⟩
                  case measure => have := HKN.out; simp [intOf]; omega
                | false =>
                  have e2 : (uo.toList == vo.toList) = false := hq2
                  have HF := Lib.hid (hdf (fun e => by cases e; exact eqT_no.1 hq2 rfl))
                  clear hst hdf hq1 hq2
                  go_wp2_with fail
                  refine Go.wp_region_quiet_grown mixed (by kernel_rfl) ?_
                  repeat (go_big_quiet_step (fail))
                  refine Go.wpQuiet_nil ?_
                  intro _ hw'
                  obtain ⟨⟨nq, osq⟩, hw''⟩ := hw'
                  subst hw''
                  go_wp2_with fail
                  go_ret
                  exact ⟨by rw [HF.out]; rfl, hwr.trans (Gr.grown _ _ _)⟩
              | false =>
                have e1 : (ur.toList == vr.toList) = false := hq1
                have HF := Lib.hid (hdf (fun e => by cases e; exact eqT_no.1 hq1 rfl))
                clear hst hdf hq1
                go_wp2_with fail
                refine Go.wp_region_quiet_grown mixed (by kernel_rfl) ?_
                repeat (go_big_quiet_step (fail))
                refine Go.wpQuiet_nil ?_
                intro _ hw'
                obtain ⟨⟨nq, osq⟩, hw''⟩ := hw'
                subst hw''
                go_wp2_with fail
                go_ret
                exact ⟨by rw [HF.out]; rfl, hwr.trans (Gr.grown _ _ _)⟩
            · have HF := Lib.hid (decide_eq_true (rols_eq HCQ.out (lists_eq HMN.out HMN'.out (fun j hj => hn.out j (by omega)))) : decide (A = D) = true)
              clear hn
              go_wp2_with fail
              go_ret
              exact ⟨by rw [HF.out]; rfl, hwr⟩
    · have i5 : ((mn : Int) == (mn' : Int)) = false := by simp; omega
      have i6 : ((mn : Int) != (mn' : Int)) = true := by simp; omega
      subst e4
      have HF := Lib.hid (HNE.out (fun e => e5 (by rw [← HMN.out, ← HMN'.out, e])))
      go_enter Try.func31, Try.ntmps31
      go_wp2_with fail
      go_ret
      exact ⟨by rw [HF.out]; rfl, HG.out⟩
  · have i4 : ((nn : Int) == (nn' : Int)) = false := by simp; omega
    have i6 : ((nn : Int) != (nn' : Int)) = true := by simp; omega
    have HF := Lib.hid (HNE.out (fun e => e4 (by rw [← HNN.out, ← HNN'.out, e])))
    go_enter Try.func31, Try.ntmps31
    go_wp2_with fail
    go_ret
    exact ⟨by rw [HF.out]; rfl, HG.out⟩
end Go.Proofs.Ytekhkmhpeefenaa
