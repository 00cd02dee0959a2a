/-
  Layer 4's statements, walked: with a number and without it again; any order.
-/
import Derived.Test.YtmionaamaojjbaaLaw04b
namespace Go.Proofs.Ytmionaamaojjbaa
open Go.RowKit

theorem big_full {s : List Int} {n : Int} (h : isS s = true) (hb : 16 < (ins n s).length) : s.length = 16 ∧ decide (n ∈ s) = false := by
  rw [isS_iff] at h
  have h1 := length_ins_le (n := n) s
  refine ⟨by omega, ?_⟩
  simp only [decide_eq_false_iff_not]
  intro hm
  rw [ins_in h.1 hm] at hb
  omega
theorem has_ins (s : List Int) (n : Int) : decide (n ∈ ins n s) = true := by simp [mem_ins]
theorem not_dif (s : List Int) (n : Int) : decide (n ∈ dif s n) = false := by simp [mem_dif]
theorem isS_ins {s : List Int} {n : Int} (h : isS s = true) (hb : ¬ 16 < (ins n s).length) : isS (ins n s) = true := by
  rw [isS_iff] at h ⊢
  exact ⟨up_ins h.1, by omega⟩

set_option maxRecDepth 100000 in
set_option maxHeartbeats 4000000 in
theorem walk_back4 (a : Option Addr) (n cap : Nat) (zs : List Int) (v : Int) (w : World) (hl : zs.length = n) (hr : Rd w w.heap.size a (ci zs)) (hc : n ≤ cap) (hm : cap ≤ maxLen) :
    Calls Try.prog 8 #[.slice a n cap, .int .i64 v] w fun e w' => e = .returned (.bool true) ∧ Below w.heap.size w w' := by
  have M1 := Lib.hid (Nat.le_trans hc hm)
  have hlen := length_withV zs v
  have hlen2 := length_withoutV zs v
  rw [hl] at hlen hlen2
  have HL := Lib.hid hl
  unfold maxLen at hm
  by_cases hlong : 1000 < n
  · clear hl
    go_enter Try.func8, Try.ntmps8
    go_wp2_with fail
    go_ret
    exact ⟨rfl, Below.refl _ _⟩
  by_cases hS : isS zs = true
  · by_cases hbig : 16 < (ins v zs).length
    · obtain ⟨hf1, hf2⟩ := big_full hS hbig
      have hn16 : n = 16 := by omega
      have HF2 := Lib.hid hf2
      have HE := Lib.hid (withE_big hS hbig)
      have HS := Lib.hid hS
      have hd16 : ((n : Int) == 16) = true := by simp; omega
      have HN := Lib.hid hn16
      clear hl hS hbig hf1 hf2 hn16
      go_enter Try.func8, Try.ntmps8
      go_wp2_with fail
      refine (with_any a n cap _ zs v w HL.out hr (Nat.le_refl _) M1.out).mono ?_
      rintro e w1 ⟨o, rfl, hown, hb1⟩
      rw [HE.out]
      go_wp2_with fail
      refine (with_shown w1).mono ?_
      rintro e w2 ⟨rfl, hb2⟩
      have hb02 := hb1.trans (hb2.mono hb1.size)
      go_wp2_with fail
      refine (is_any a n cap _ zs w2 HL.out (hr.below hb02 (Nat.le_refl _)) M1.out).mono ?_
      rintro e w3 ⟨rfl, hb3⟩
      rw [HS.out]
      have hb03 := hb02.trans (hb3.mono hb02.size)
      go_wp2_with fail
      refine (has_any a n cap _ zs v w3 HL.out (hr.below hb03 (Nat.le_refl _)) M1.out).mono ?_
      rintro e w4 ⟨rfl, rfl⟩
      rw [HF2.out]
      go_wp2
      go_ret
      exact ⟨rfl, hb03⟩
    · have hins := isS_ins hS hbig
      have hE := withE_ok hS hbig
      have hV := withV_ok hE
      have hE2 := withoutE_ok hins
      have hV2 := withoutV_dif (n := v) hins
      rw [dif_ins (isS_iff.1 hS).1] at hV2
      have hE3 := withoutE_ok hS
      have hV3 := withoutV_dif (n := v) hS
      have hhas := has_ins zs v
      have hnot := not_dif zs v
      have hil : (ins v zs).length ≤ 1001 := by have := length_ins_le (n := v) zs; omega
      have hdl : (dif zs v).length ≤ 1001 := by have := length_dif zs v; omega
      have HE := Lib.hid hE; have HV := Lib.hid hV; have HE2 := Lib.hid hE2; have HV2 := Lib.hid hV2; have HE3 := Lib.hid hE3; have HV3 := Lib.hid hV3
      have HINS := Lib.hid hins; have HHAS := Lib.hid hhas; have HNOT := Lib.hid hnot
      clear hl hS hbig hins hE hV hE2 hV2 hE3 hV3 hhas hnot
      go_enter Try.func8, Try.ntmps8
      go_wp2_with fail
      refine (with_any a n cap _ zs v w HL.out hr (Nat.le_refl _) M1.out).mono ?_
      rintro e w1 ⟨o, rfl, hown, hb1⟩
      rw [HV.out] at hown
      rw [HE.out]
      obtain ⟨a1, c1, rfl, hr1⟩ := rd_own hown
      clear hown
      go_wp2_with fail
      refine (without_any a1 _ c1 _ (ins v zs) v w1 rfl hr1 (Nat.le_refl _) (by unfold maxLen; omega)).mono ?_
      rintro e w2 ⟨o2, rfl, hown2, hb2⟩
      rw [HV2.out] at hown2
      rw [HE2.out]
      have hb02 := hb1.trans (hb2.mono hb1.size)
      have hr12 := (hr1.below hb2 (Nat.le_refl _)).more hb2.size
      obtain ⟨a2, c2, rfl, hr2⟩ := rd_own hown2
      clear hown2
      go_wp2_with fail
      refine (without_any a n cap _ zs v w2 HL.out (hr.below hb02 (Nat.le_refl _)) hb02.size M1.out).mono ?_
      rintro e w3 ⟨o3, rfl, hown3, hb3⟩
      rw [HV3.out] at hown3
      rw [HE3.out]
      have hb03 := hb02.trans (hb3.mono hb02.size)
      have hr13 := (hr12.below hb3 (Nat.le_refl _)).more hb3.size
      have hr23 := (hr2.below hb3 (Nat.le_refl _)).more hb3.size
      obtain ⟨a3, c3, rfl, hr3⟩ := rd_own hown3
      clear hown3 hr12 hr1 hr2 hb1 hb2 hb3
      go_wp2_with fail
      refine (with_shown w3).mono ?_
      rintro e w4 ⟨rfl, hb4⟩
      have hb04 := hb03.trans (hb4.mono hb03.size)
      go_wp2_with fail
      refine (without_shown w4).mono ?_
      rintro e w5 ⟨rfl, hb5⟩
      have hb05 := hb04.trans (hb5.mono hb04.size)
      have hb35 := hb4.trans (hb5.mono hb4.size)
      go_wp2_with fail
      refine (is_any a1 _ c1 _ (ins v zs) w5 rfl (hr13.below hb35 (Nat.le_refl _)) (by unfold maxLen; omega)).mono ?_
      rintro e w6 ⟨rfl, hb6⟩
      rw [HINS.out]
      have hb06 := hb05.trans (hb6.mono hb05.size)
      have hb36 := hb35.trans (hb6.mono hb35.size)
      go_wp2_with fail
      refine (has_any a1 _ c1 _ (ins v zs) v w6 rfl (hr13.below hb36 (Nat.le_refl _)) (by unfold maxLen; omega)).mono ?_
      rintro e w7 ⟨rfl, rfl⟩
      rw [HHAS.out]
      go_wp2_with fail
      refine (has_any a2 _ c2 _ (dif zs v) v w6 rfl (hr23.below hb36 (Nat.le_refl _)) (by unfold maxLen; omega)).mono ?_
      rintro e w7 ⟨rfl, rfl⟩
      rw [HNOT.out]
      go_wp2_with fail
      refine (same_sets a2 a3 _ c2 _ c3 _ _ (dif zs v) (dif zs v) w6 rfl rfl (hr23.below hb36 (Nat.le_refl _)) (hr3.below hb36 (Nat.le_refl _)) (by unfold maxLen; omega) (by unfold maxLen; omega)).mono ?_
      rintro e w7 ⟨rfl, hb7⟩
      have hbb := hb06.trans (hb7.mono hb06.size)
      have hrf := Lib.hid (show decide (dif zs v = dif zs v) = true by simp)
      rw [hrf.out]
      go_wp2
      go_ret
      exact ⟨rfl, hbb⟩
  · have hS : isS zs = false := by simpa using hS
    have HS := Lib.hid hS
    have HE := Lib.hid (withE_no (n := v) hS)
    clear hl hS
    go_enter Try.func8, Try.ntmps8
    go_wp2_with fail
    refine (with_any a n cap _ zs v w HL.out hr (Nat.le_refl _) M1.out).mono ?_
    rintro e w1 ⟨o, rfl, hown, hb1⟩
    rw [HE.out]
    go_wp2_with fail
    refine (with_shown w1).mono ?_
    rintro e w2 ⟨rfl, hb2⟩
    have hb02 := hb1.trans (hb2.mono hb1.size)
    go_wp2_with fail
    refine (is_any a n cap _ zs w2 HL.out (hr.below hb02 (Nat.le_refl _)) M1.out).mono ?_
    rintro e w3 ⟨rfl, hb3⟩
    rw [HS.out]
    go_wp2
    go_ret
    exact ⟨rfl, hb02.trans (hb3.mono hb02.size)⟩

/-- How far numbers are laid in, from ahead and from behind. -/
def OrdAt (zs A B : List Int) (k : Nat) : Prop :=
  isS A = true ∧ isS B = true ∧ A.length ≤ k ∧ B.length ≤ k ∧ (∀ x, x ∈ A ↔ x ∈ zs.take k) ∧ (∀ x, x ∈ B ↔ x ∈ zs.reverse.take k)
theorem ordAt_zero (zs : List Int) : OrdAt zs [] [] 0 := ⟨by decide, by decide, Nat.le_refl _, Nat.le_refl _, by simp, by simp⟩
theorem ordAt_step {zs A B : List Int} {k j : Nat} (h : OrdAt zs A B k) (hk : k < zs.length) (hj : j < zs.length) (hjk : k + j + 1 = zs.length) (h1 : ¬ 16 < (ins zs[k] A).length) (h2 : ¬ 16 < (ins zs[j] B).length) : OrdAt zs (ins zs[k] A) (ins zs[j] B) (k + 1) := by
  obtain ⟨a1, a2, a3, a4, a5, a6⟩ := h
  have b1 := length_ins_le (n := zs[k]) A
  have b2 := length_ins_le (n := zs[j]) B
  have hkr : k < zs.reverse.length := by simpa using hk
  have e : zs.reverse[k] = zs[j] := by
    rw [List.getElem_reverse]
    congr 1; omega
  refine ⟨isS_ins a1 h1, isS_ins a2 h2, by omega, by omega, fun x => ?_, fun x => ?_⟩
  · rw [mem_ins, a5, List.take_succ_eq_append_getElem hk]
    simp only [List.mem_append, List.mem_singleton]
    exact Or.comm
  · rw [mem_ins, a6, List.take_succ_eq_append_getElem hkr, e]
    simp only [List.mem_append, List.mem_singleton]
    exact Or.comm
theorem ordAt_end {zs A B : List Int} {k : Nat} (h : OrdAt zs A B k) (hk : zs.length ≤ k) : A = B := by
  obtain ⟨a1, a2, _, _, a5, a6⟩ := h
  rw [List.take_of_length_le hk] at a5
  rw [List.take_of_length_le (by simpa using hk)] at a6
  exact up_ext (isS_iff.1 a1).1 (isS_iff.1 a2).1 fun x => by rw [a5, a6]; simp

set_option maxRecDepth 100000 in
set_option maxHeartbeats 4000000 in
theorem walk_order (a : Option Addr) (n cap : Nat) (zs : List Int) (w : World) (hl : zs.length = n) (hr : Rd w w.heap.size a (ci zs)) (_hc : n ≤ cap) (_hm : cap ≤ maxLen) :
    Calls Try.prog 9 #[.slice a n cap] w fun e w' => e = .returned (.bool true) ∧ Below w.heap.size w w' := by
  have HL := Lib.hid hl; clear hl
  by_cases hlong : 1000 < n
  · go_enter Try.func9, Try.ntmps9
    go_wp2_with fail
    go_ret
    exact ⟨rfl, Below.refl _ _⟩
  go_enter Try.func9, Try.ntmps9
  go_wp2_with fail
  go_loopw [3, 4, 5] (fun oa ob i wr => ∃ (k : Nat) (A B : List Int) (oa' ob' : Value), oa' = oa ∧ ob' = ob ∧ k ≤ n ∧ i = .int .i64 k ∧ Hid (OrdAt zs A B k) ∧ wr.ownsRow w.heap.size 3 1 oa' A.length (ci A) ∧ wr.ownsRow w.heap.size 3 1 ob' B.length (ci B) ∧ Below w.heap.size w wr) (fun _ _ i _ => n - (intOf i).toNat)
  case atStart => exact ⟨0, [], [], _, _, rfl, rfl, Nat.zero_le _, rfl, Lib.hid (ordAt_zero zs), World.ownsRow_nil _ _ _ _, World.ownsRow_nil _ _ _ _, Below.refl _ _⟩
  case round =>
    obtain ⟨k, A, B, oa', ob', rfl, rfl, hk, rfl, hat, hownA, hownB, hb⟩ := hrel
    obtain ⟨aA, cA, rfl, hrA⟩ := rd_own hownA
    obtain ⟨aB, cB, rfl, hrB⟩ := rd_own hownB
    have hA16 : A.length ≤ 16 := (isS_iff.1 hat.out.1).2
    have hB16 : B.length ≤ 16 := (isS_iff.1 hat.out.2.1).2
    have hAk : A.length ≤ k := hat.out.2.2.1
    have hBk : B.length ≤ k := hat.out.2.2.2.1
    by_cases hlt : k < n
    · obtain ⟨j, hj⟩ : ∃ j, k + j + 1 = n := ⟨n - k - 1, by omega⟩
      obtain ⟨b, o, rfl, hB1, hcc⟩ := hr.pos (by rw [length_ci, HL.out]; omega)
      have lk : k < zs.length := by rw [HL.out]; exact hlt
      have lj : j < zs.length := by rw [HL.out]; omega
      have hck := (hb.cell (p := ⟨b, o + k, none⟩) hB1).trans (hcc k (by rw [length_ci, HL.out]; omega))
      have hcj := fun (u : World) (hu : Below w.heap.size w u) => (hu.cell (p := ⟨b, o + j, none⟩) hB1).trans (hcc j (by rw [length_ci, HL.out]; omega))
      simp only [ci_get] at hck hcj
      clear hcc
      have hst := fun h1 h2 => ordAt_step hat.out lk lj (by rw [HL.out]; exact hj) h1 h2
      have b1 := length_ins_le (n := zs[k]) A
      have b2 := length_ins_le (n := zs[j]) B
      have hiA := hat.out.1
      have hiB := hat.out.2.1
      have eA0 := fun (h : ¬ 16 < (ins (zs[k]'lk) A).length) => withE_ok hiA h
      have eA2 := fun (h : 16 < (ins (zs[k]'lk) A).length) => withE_big hiA h
      have eB0 := fun (h : ¬ 16 < (ins (zs[j]'lj) B).length) => withE_ok hiB h
      have eB2 := fun (h : 16 < (ins (zs[j]'lj) B).length) => withE_big hiB h
      generalize zs[k] = x at *
      generalize zs[j] = y at *
      have k0 : (0 : Int) ≤ (k : Int) := by omega
      have k1 : (k : Int) < (n : Int) := by omega
      have HJ := Lib.hid hj
      have j0 : (n : Int) - 1 - (k : Int) = (j : Int) := by omega
      clear hj hiA hiB
      by_cases hbA : 16 < (ins x A).length
      · have HEA := Lib.hid (eA2 hbA)
        have hn16 : 16 < n := by omega
        clear eA0 eA2 eB0 eB2 hst
        go_wp2_with fail
        refine (with_any aA _ cA _ A x wr rfl hrA (Nat.le_refl _) (by unfold maxLen; omega)).mono ?_
        rintro e w1 ⟨o1, rfl, hown1, hb1⟩
        rw [HEA.out]
        have hb01 := hb.trans (hb1.mono hb.size)
        have hcj1 := hcj w1 hb01
        clear hown1 hcj
        go_wp2_with fail
        refine (with_any aB _ cB _ B y w1 rfl (hrB.below hb1 (Nat.le_refl _)) hb1.size (by unfold maxLen; omega)).mono ?_
        rintro e w2 ⟨o2, rfl, hown2, hb2⟩
        have hb02 := hb01.trans (hb2.mono hb01.size)
        generalize withE B y = EB at *
        go_wp2_with fail
        refine (with_shown w2).mono ?_
        rintro e w3 ⟨rfl, hb3⟩
        go_wp2
        go_ret
        exact ⟨by simp; omega, hb02.trans (hb3.mono hb02.size)⟩
      · have hEA := eA0 hbA
        have HVA := Lib.hid (withV_ok hEA)
        have HEA := Lib.hid hEA
        clear eA0 eA2 hEA
        by_cases hbB : 16 < (ins y B).length
        · have HEB := Lib.hid (eB2 hbB)
          have hn16 : 16 < n := by omega
          clear eB0 eB2 hst
          go_wp2_with fail
          refine (with_any aA _ cA _ A x wr rfl hrA (Nat.le_refl _) (by unfold maxLen; omega)).mono ?_
          rintro e w1 ⟨o1, rfl, hown1, hb1⟩
          rw [HEA.out]
          have hb01 := hb.trans (hb1.mono hb.size)
          have hcj1 := hcj w1 hb01
          clear hown1 hcj
          go_wp2_with fail
          refine (with_any aB _ cB _ B y w1 rfl (hrB.below hb1 (Nat.le_refl _)) hb1.size (by unfold maxLen; omega)).mono ?_
          rintro e w2 ⟨o2, rfl, hown2, hb2⟩
          rw [HEB.out]
          have hb02 := hb01.trans (hb2.mono hb01.size)
          go_wp2_with fail
          refine (with_shown w2).mono ?_
          rintro e w3 ⟨rfl, hb3⟩
          go_wp2
          go_ret
          exact ⟨by simp; omega, hb02.trans (hb3.mono hb02.size)⟩
        · have hEB := eB0 hbB
          have HVB := Lib.hid (withV_ok hEB)
          have HEB := Lib.hid hEB
          have HST := Lib.hid (hst hbA hbB)
          clear eB0 eB2 hst hEB
          go_wp2_with fail
          refine (with_any aA _ cA _ A x wr rfl hrA (Nat.le_refl _) (by unfold maxLen; omega)).mono ?_
          rintro e w1 ⟨o1, rfl, hown1, hb1⟩
          rw [HEA.out]
          have hb01 := hb.trans (hb1.mono hb.size)
          have hcj1 := hcj w1 hb01
          clear hcj
          go_wp2_with fail
          refine (with_any aB _ cB _ B y w1 rfl (hrB.below hb1 (Nat.le_refl _)) hb1.size (by unfold maxLen; omega)).mono ?_
          rintro e w2 ⟨o2, rfl, hown2, hb2⟩
          rw [HEB.out]
          have hb02 := hb01.trans (hb2.mono hb01.size)
          have own1 := World.ownsRow.mono (own_over hown1 hb2) hb.size
          have own2 := World.ownsRow.mono hown2 (show w.heap.size ≤ w1.heap.size from Nat.le_trans hb.size hb1.size)
          rw [HVA.out] at own1
          rw [HVB.out] at own2
          clear hown1 hown2
          go_wp2_with fail
          go_roundw
          case rel => exact ⟨k + 1, _, _, _, _, rfl, rfl, by omega, by go_num, HST, own1, own2, hb02⟩
          case measure => simp [intOf]; omega
    · have HAB := Lib.hid (ordAt_end hat.out (by rw [HL.out]; omega))
      have HSA := Lib.hid hat.out.1
      go_wp2_with fail
      refine (with_shown wr).mono ?_
      rintro e w1 ⟨rfl, hb1⟩
      go_wp2_with fail
      refine (is_any aA _ cA _ A w1 rfl (hrA.below hb1 (Nat.le_refl _)) (by unfold maxLen; omega)).mono ?_
      rintro e w2 ⟨rfl, hb2⟩
      rw [HSA.out]
      have hb02 := hb1.trans (hb2.mono hb1.size)
      go_wp2_with fail
      refine (same_sets aA aB _ cA _ cB _ _ A B w2 rfl rfl (hrA.below hb02 (Nat.le_refl _)) (hrB.below hb02 (Nat.le_refl _)) (by unfold maxLen; omega) (by unfold maxLen; omega)).mono ?_
      rintro e w3 ⟨rfl, hb3⟩
      have hbb := hb.trans ((hb02.trans (hb3.mono hb02.size)).mono hb.size)
      have hrf := Lib.hid (show decide (A = B) = true by simpa using HAB.out)
      rw [hrf.out]
      go_wp2
      go_ret
      exact ⟨rfl, hbb⟩
end Go.Proofs.Ytmionaamaojjbaa
