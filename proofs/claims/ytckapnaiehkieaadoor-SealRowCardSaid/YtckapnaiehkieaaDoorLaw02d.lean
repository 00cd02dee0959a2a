/-
  Layer 2's statements, walked: frames, one behind the other, are found again; cut off they tell a beginning.
-/
import Derived.Test.YtckapnaiehkieaaDoorLaw02c
namespace Go.Proofs.YtckapnaiehkieaaDoor
open Go.RowKit

theorem Rows.below {w w' : World} {B : Nat} {xs : List Value} {bss : List (List UInt8)} (h : Rows w (· < B) xs bss) (hb : Below B w w') : Rows w' (· < B) xs bss :=
  h.keep (fun _ h => h) (fun p (h : p.block < B) => hb.cell h)

set_option maxRecDepth 100000 in
set_option maxHeartbeats 4000000 in
theorem walk_row (a0 : Option Addr) (n0 cap0 : Nat) (xs : List Value) (bss : List (List UInt8)) (cut : Int) (w : World) (hT : Tab w) (hl : bss.length = n0) (hr : Rd w w.heap.size a0 xs) (ht : Rows w (· < w.heap.size) xs bss) (hcap : n0 ≤ cap0) (_hm : cap0 ≤ maxLen)
    (hcut : (Lit.int .i64 cut).wf = true) :
    Calls Tryd.prog 8 #[.slice a0 n0 cap0, .int .i64 cut] w fun e w' => e = .returned (.bool true) ∧ Below w.heap.size w w' := by
  obtain ⟨i0, hi, hz0, hz1, hz2⟩ := info_parts info_byte
  have hcb := bounds_i64 hcut

  have hxl : xs.length = n0 := ht.length.trans hl
  have HL := Lib.hid hl; clear hl
  have HXL := Lib.hid hxl; clear hxl
  have HT := Lib.hid hT; clear hT
  clear hcut
  by_cases hlong : 50 < n0
  · go_enter Tryd.func8, Tryd.ntmps8
    go_wp2_with fail
    go_ret
    exact ⟨rfl, Below.refl _ _⟩
  · go_enter Tryd.func8, Tryd.ntmps8
    go_wp2_with fail
    go_loopw [5, 6] (fun o i wr => ∃ (k : Nat) (o' : Value), o' = o ∧ k ≤ n0 ∧ i = .int .i64 k ∧ (∀ b ∈ bss.take k, b.length ≤ 1000) ∧ wr.ownsRow w.heap.size 5 1 o' (catB (bss.take k)).length (cb (catB (bss.take k))) ∧ Below w.heap.size w wr) (fun _ i _ => n0 - (intOf i).toNat)
    case atStart => exact ⟨0, _, rfl, Nat.zero_le _, rfl, by simp, World.ownsRow_nil _ _ _ _, Below.refl _ _⟩
    case round =>
      obtain ⟨k, o', rfl, hk, rfl, hsm, hown, hb⟩ := hrel
      by_cases hlt : k < n0
      · obtain ⟨b1, o1, rfl, _, hc1⟩ := hr.pos (by rw [HXL.out]; omega)
        have hck := hc1 k (by rw [HXL.out]; omega)
        clear hc1
        obtain ⟨p1, q1, e1, s1⟩ := ht.at k (by rw [HXL.out]; omega) (by rw [HL.out]; omega)
        rw [e1, ← hb.cell (p := ⟨b1, o1 + k, none⟩) ‹_›] at hck
        clear e1
        have htk := take_snoc' bss k (by rw [HL.out]; omega)
        have hrx := (s1.rd (B := w.heap.size) (fun _ h => h)).below hb (Nat.le_refl _)
        clear s1
        generalize (bss[k]'(by rw [HL.out]; omega)) = x at *
        generalize hx : x.length = m at *
        by_cases hbig : 1000 < m
        · have HX := Lib.hid hx; have HTK := Lib.hid htk; clear hx htk
          have hb' : (1000 : Int) < (m : Int) := by omega
          go_wp2
          go_ret
          exact ⟨rfl, hb⟩
        · have hln := length_catB (bss.take k) hsm
          have hln2 : (bss.take k).length ≤ 50 := by simp; omega
          have hcs := catB_snoc (bss.take k) x
          rw [← htk] at hcs
          have hsm2 : ∀ b ∈ bss.take (k + 1), b.length ≤ 1000 := by
            rw [htk]; intro b hbm
            rcases List.mem_append.1 hbm with h | h
            · exact hsm b h
            · simp at h; subst h; omega
          have hfl : (frameB x).length = 8 + m := by rw [length_frameB, hx]
          have hcl : (catB (bss.take (k + 1))).length = (catB (bss.take k)).length + (8 + m) := by rw [hcs, List.length_append, hfl]
          have HX := Lib.hid hx; have HTK := Lib.hid htk; have HCS := Lib.hid hcs; have HFL := Lib.hid hfl; have HCL := Lib.hid hcl
          clear hx htk hcs hfl hcl
          have hTr := HT.out.below HT.out.pos hb
          have HTR := Lib.hid hTr; clear hTr
          go_wp2_with fail
          refine (frame_ok p1 m q1 x _ HTR.out HX.out (hrx.more hb.size) (by omega)).mono ?_
          rintro e w1 ⟨of, rfl, hownf, hb1⟩
          obtain ⟨af, cf, rfl, hrf, _⟩ := own_slice hownf
          have hown1 := own_below hown hb1
          have hbb1 := hb.trans (hb1.mono hb.size)
          go_wp2_with (at_builtin; refine wpList_append_rd rfl _ _ 22 rfl w.heap.size 5 i0 (.int .u8 0) 1 Tryd.underlying22 hi hz0 hz1 hz2 rfl _ _ _ rfl hown1 w1.heap.size _ (8 + m) cf (cb (frameB x)) rfl hrf ?c1 (cb_one _) ?c2 ?c3 hbb1.size ?_)
          case c1 => rw [length_cb, HFL.out]
          case c2 => unfold maxLen; omega
          case c3 => omega
          intro o3 w3 hown3 hg3
          have hb3 := hbb1.grown hg3 hbb1.size (fun j hj => (hown1.lt j hj).1)
          rw [← cb_append, ← HCS.out, ← HCL.out] at hown3
          go_wp2
          go_roundw
          case rel => exact ⟨k + 1, _, rfl, by omega, by go_num, hsm2, hown3, hb3⟩
          case measure => simp [intOf]; omega
      · obtain rfl : k = n0 := by omega
        rw [List.take_of_length_le (by rw [HL.out]; omega)] at hsm hown
        have hln := length_catB bss hsm
        rw [HL.out] at hln
        have hac := all_cat bss hsm
        have hct := fun c h => all_cut bss c hsm h
        obtain ⟨af, cf, rfl, hrf, hcf, hmf⟩ := own_slice hown
        have HAC := Lib.hid hac; clear hac
        have HCT := Lib.hid hct; clear hct
        have HMF := Lib.hid hmf
        unfold maxLen at hmf
        generalize hcat : catB bss = cat at *
        generalize hcl : cat.length = cl at *
        have HCAT := Lib.hid hcat; have HCL := Lib.hid hcl
        clear hcat hcl hown hsm
        have hTr := HT.out.below HT.out.pos hb
        have HTR := Lib.hid hTr; clear hTr
        go_wp2_with fail
        refine (all_any af cl cf cat _ HTR.out HCL.out hrf (by omega) hcf HMF.out).mono ?_
        rintro e w1 ⟨a1, c1, ys, rfl, hr1, ht1, hb1⟩
        rw [HAC.out] at ht1 ⊢
        simp only at ht1
        rw [HL.out]
        have hbb1 := hb.trans (hb1.mono hb.size)
        have hr1' : Rd w1 w1.heap.size a1 ys := hr1.rd (fun b h => h.2)
        go_wp2_with fail
        refine (same_any _ _ k _ _ _ _ _ _ ys xs bss _ HL.out hr1' (hr.below hbb1 (Nat.le_refl _)) ht1 (ht.below hbb1) (by omega)).mono ?_
        rintro e w2 ⟨rfl, hb2⟩
        have hbb2 := hbb1.trans (hb2.mono hbb1.size)
        clear hr1 hr1' ht1
        by_cases hout : cut < 0 ∨ (cl : Int) < cut
        · by_cases hneg : cut < 0
          all_goals
            have hgt : cut < 0 ∨ (cl : Int) < cut := hout
            clear hout
            have hgt' : cut < 0 ∨ (cl : Int) < cut := by omega
            go_wp2_with fail
            refine (frames_any _ (HT.out.below HT.out.pos hbb2)).mono ?_
            rintro e w3 ⟨rfl, hb3⟩
            have hbb3 := hbb2.trans (hb3.mono hbb2.size)
            go_wp2_with fail
            refine (finds_any _ (HT.out.below HT.out.pos hbb3)).mono ?_
            rintro e w4 ⟨rfl, hb4⟩
            go_wp2
            go_ret
            exact ⟨rfl, hbb3.trans (hb4.mono hbb3.size)⟩
        · obtain ⟨c, rfl⟩ : ∃ c : Nat, cut = (c : Int) := ⟨cut.toNat, by omega⟩
          have hcc : c ≤ cl := by omega
          obtain ⟨kk, m, hkk, hkm⟩ := HCT.out c hcc
          rw [HL.out] at hkk
          have hrf2 := (((hrf.below hb1 (Nat.le_refl _)).below hb2 hb1.size).take c).more (Nat.le_trans hb1.size hb2.size)
          rw [cb_take] at hrf2
          have hcl2 : (cat.take c).length = c := by rw [List.length_take, HCL.out]; omega
          have HCL2 := Lib.hid hcl2; clear hcl2
          have hkl : (bss.take kk).length = kk := by rw [List.length_take, HL.out]; omega
          have HKL := Lib.hid hkl; clear hkl
          generalize cat.take c = ct at *
          have c0 : (0 : Int) ≤ (c : Int) := by omega
          rcases hkm with ⟨hmc, he⟩ | ⟨hmc, he⟩
          · rw [hmc] at he
            clear hmc
            have HE := Lib.hid he; clear he
            cases af
            all_goals
              go_wp2_with fail
              refine (all_any _ c _ ct _ (HT.out.below HT.out.pos hbb2) HCL2.out hrf2 (by omega) (by omega) HMF.out).mono ?_
              rintro e w4 ⟨a4, c4, zs, rfl, hr4, ht4, hb4⟩
              rw [HE.out] at ht4 ⊢
              simp only at ht4
              rw [HKL.out]
              have hb34 := hbb2.trans (hb4.mono hbb2.size)
              have hr4' : Rd w4 w4.heap.size a4 zs := hr4.rd (fun b h => h.2)
              clear hr4
              go_wp2_with fail
              refine (frames_any _ (HT.out.below HT.out.pos hb34)).mono ?_
              rintro e w5 ⟨rfl, hb5⟩
              have hb35 := hb34.trans (hb5.mono hb34.size)
              go_wp2_with fail
              refine (finds_any _ (HT.out.below HT.out.pos hb35)).mono ?_
              rintro e w6 ⟨rfl, hb6⟩
              have hb36 := hb35.trans (hb6.mono hb35.size)
              have hr6 := (hr4'.below hb5 (Nat.le_refl _)).below hb6 hb5.size
              have ht6 : Rows w6 (· < w4.heap.size) zs (bss.take kk) := ht4.keep (fun b h => h.2) (fun p h => (hb6.cell (Nat.lt_of_lt_of_le h.2 hb5.size)).trans (hb5.cell h.2))
              have hr0 := (hr.below hb36 (Nat.le_refl _)).take kk
              have ht0 := (ht.below hb36).take kk
              clear hr4' ht4
              go_wp2_with fail
              refine (same_any _ _ kk _ _ _ _ _ _ zs (xs.take kk) (bss.take kk) _ HKL.out hr6 hr0 ht6 ht0 (by omega)).mono ?_
              rintro e w7 ⟨rfl, hb7⟩
              go_wp2
              go_ret
              exact ⟨rfl, hb36.trans (hb7.mono hb36.size)⟩
          · skip
            have HE := Lib.hid he; clear he
            have hmc' : ((m : Int) == (c : Int)) = false := by simp; omega
            have hmc2 : (m == c) = false := by simp; omega
            cases af
            all_goals
              go_wp2_with fail
              refine (all_any _ c _ ct _ (HT.out.below HT.out.pos hbb2) HCL2.out hrf2 (by omega) (by omega) HMF.out).mono ?_
              rintro e w4 ⟨a4, c4, zs, rfl, hr4, ht4, hb4⟩
              rw [HE.out] at ht4 ⊢
              simp only at ht4
              rw [HKL.out]
              have hb34 := hbb2.trans (hb4.mono hbb2.size)
              have hr4' : Rd w4 w4.heap.size a4 zs := hr4.rd (fun b h => h.2)
              clear hr4
              go_wp2_with fail
              refine (frames_any _ (HT.out.below HT.out.pos hb34)).mono ?_
              rintro e w5 ⟨rfl, hb5⟩
              have hb35 := hb34.trans (hb5.mono hb34.size)
              go_wp2_with fail
              refine (finds_any _ (HT.out.below HT.out.pos hb35)).mono ?_
              rintro e w6 ⟨rfl, hb6⟩
              have hb36 := hb35.trans (hb6.mono hb35.size)
              have hr6 := (hr4'.below hb5 (Nat.le_refl _)).below hb6 hb5.size
              have ht6 : Rows w6 (· < w4.heap.size) zs (bss.take kk) := ht4.keep (fun b h => h.2) (fun p h => (hb6.cell (Nat.lt_of_lt_of_le h.2 hb5.size)).trans (hb5.cell h.2))
              have hr0 := (hr.below hb36 (Nat.le_refl _)).take kk
              have ht0 := (ht.below hb36).take kk
              clear hr4' ht4
              go_wp2_with fail
              refine (same_any _ _ kk _ _ _ _ _ _ zs (xs.take kk) (bss.take kk) _ HKL.out hr6 hr0 ht6 ht0 (by omega)).mono ?_
              rintro e w7 ⟨rfl, hb7⟩
              go_wp2
              go_ret
              exact ⟨rfl, hb36.trans (hb7.mono hb36.size)⟩
end Go.Proofs.YtckapnaiehkieaaDoor
