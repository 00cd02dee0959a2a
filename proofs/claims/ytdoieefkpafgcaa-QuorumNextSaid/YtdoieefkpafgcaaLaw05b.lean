/-
  Layer 5's statements, walked: majorities meet; what is sure grows.
-/
import Derived.Test.YtdoieefkpafgcaaLaw05a
import Derived.Test.YtdoieefkpafgcaaSetsE
import Derived.Deep.AppendLies
import Derived.Laws.OwnMore
namespace Go.Proofs.Ytdoieefkpafgcaa
open Go.RowKit

theorem rd_own1 {w : World} {base : Nat} {e : TypeId} {size : Nat} {a : Option Addr} {n c : Nat} {xs : List Value} (h : w.ownsRow base e size (.slice a n c) n xs) : Rd w w.heap.size a xs := by
  obtain ⟨a', c', he, r⟩ := rd_own h
  cases he
  exact r
theorem none_take_succ {v a b : List Int} {k : Nat} (h : k < v.length) (hn : ∀ x ∈ v.take k, ¬ (x ∈ a ∧ x ∈ b)) (hk : ¬ (decide (v[k] ∈ a) = true ∧ decide (v[k] ∈ b) = true)) : ∀ x ∈ v.take (k + 1), ¬ (x ∈ a ∧ x ∈ b) := by
  intro x hx
  rcases mem_take_or h hx with hx | rfl
  · exact hn x hx
  · simpa using hk

set_option maxHeartbeats 4000000 in
theorem walk_meets (a0 : Option Addr) (n0 c0 : Nat) (vs : List Int) (a1 : Option Addr) (n1 c1 : Nat) (xs : List Int) (a2 : Option Addr) (n2 c2 : Nat) (ys : List Int) (w : World) (h0 : vs.length = n0) (r0 : Rd w w.heap.size a0 (ci vs))
    (h1 : xs.length = n1) (r1 : Rd w w.heap.size a1 (ci xs)) (h2 : ys.length = n2) (r2 : Rd w w.heap.size a2 (ci ys)) :
    Calls Try.prog 6 #[.slice a0 n0 c0, .slice a1 n1 c1, .slice a2 n2 c2] w fun e w' => e = .returned (.bool true) ∧ Below w.heap.size w w' := by
  have H0 := Lib.hid h0; have H1 := Lib.hid h1; have H2 := Lib.hid h2
  clear h0 h1 h2
  by_cases l0 : 300 < n0
  · go_enter Try.func6, Try.ntmps6
    go_wp2_with fail
    go_ret
    exact ⟨rfl, Below.refl _ _⟩
  by_cases l1 : 300 < n1
  · go_enter Try.func6, Try.ntmps6
    go_wp2_with fail
    go_ret
    exact ⟨rfl, Below.refl _ _⟩
  by_cases l2 : 300 < n2
  · go_enter Try.func6, Try.ntmps6
    go_wp2_with fail
    go_ret
    exact ⟨rfl, Below.refl _ _⟩
  cases hra : reachedP vs xs with
  | false =>
    have HA := Lib.hid hra; clear hra
    go_enter Try.func6, Try.ntmps6
    go_wp2_with fail
    refine (reached_any a0 a1 n0 c0 n1 c1 _ vs xs w H0.out H1.out r0 r1 (Nat.le_refl _) (by omega) (by omega)).mono ?_
    rintro e w1 ⟨rfl, hb1⟩
    rw [HA.out]
    go_wp2_with fail
    refine (reached_shown w1).mono ?_
    rintro e w2 ⟨rfl, hb2⟩
    go_wp2
    go_ret
    exact ⟨rfl, hb1.trans (hb2.mono hb1.size)⟩
  | true =>
    cases hrb : reachedP vs ys with
    | false =>
      have HA := Lib.hid hra; clear hra
      have HB := Lib.hid hrb; clear hrb
      go_enter Try.func6, Try.ntmps6
      go_wp2_with fail
      refine (reached_any a0 a1 n0 c0 n1 c1 _ vs xs w H0.out H1.out r0 r1 (Nat.le_refl _) (by omega) (by omega)).mono ?_
      rintro e w1 ⟨rfl, hb1⟩
      rw [HA.out]
      go_wp2_with fail
      refine (reached_any a0 a2 n0 c0 n2 c2 _ vs ys w1 H0.out H2.out (r0.below hb1 (Nat.le_refl _)) (r2.below hb1 (Nat.le_refl _)) hb1.size (by omega) (by omega)).mono ?_
      rintro e w2 ⟨rfl, hb2⟩
      rw [HB.out]
      have hb02 := hb1.trans (hb2.mono hb1.size)
      go_wp2_with fail
      refine (reached_shown w2).mono ?_
      rintro e w3 ⟨rfl, hb3⟩
      go_wp2
      go_ret
      exact ⟨rfl, hb02.trans (hb3.mono hb02.size)⟩
    | true =>
      have HM := Lib.hid (meets hra hrb)
      have HA := Lib.hid hra; clear hra
      have HB := Lib.hid hrb; clear hrb
      go_enter Try.func6, Try.ntmps6
      go_wp2_with fail
      refine (reached_any a0 a1 n0 c0 n1 c1 _ vs xs w H0.out H1.out r0 r1 (Nat.le_refl _) (by omega) (by omega)).mono ?_
      rintro e w1 ⟨rfl, hb1⟩
      rw [HA.out]
      go_wp2_with fail
      refine (reached_any a0 a2 n0 c0 n2 c2 _ vs ys w1 H0.out H2.out (r0.below hb1 (Nat.le_refl _)) (r2.below hb1 (Nat.le_refl _)) hb1.size (by omega) (by omega)).mono ?_
      rintro e w2 ⟨rfl, hb2⟩
      rw [HB.out]
      have hb02 := hb1.trans (hb2.mono hb1.size)
      clear hb1 hb2
      have s0 := r0.below hb02 (Nat.le_refl _)
      have s1 := r1.below hb02 (Nat.le_refl _)
      have s2 := r2.below hb02 (Nat.le_refl _)
      clear r0 r1 r2
      go_wp2_with fail
      go_loop [7] (fun i => ∃ k : Nat, k ≤ n0 ∧ i = .int .i64 k ∧ Hid (∀ x ∈ vs.take k, ¬ (x ∈ xs ∧ x ∈ ys))) (fun i => n0 - (intOf i).toNat)
      case atStart => exact ⟨0, Nat.zero_le _, rfl, Lib.hid (by simp)⟩
      case round =>
        obtain ⟨k, hk, rfl, hs⟩ := hrel
        by_cases hlt : k < n0
        · obtain ⟨b, o, rfl, _, hc⟩ := s0.pos (by rw [length_ci, H0.out]; omega)
          have hck := hc k (by rw [length_ci, H0.out]; omega)
          rw [ci_get] at hck
          clear hc
          have lk : k < vs.length := by rw [H0.out]; exact hlt
          have hst := fun h => none_take_succ lk hs.out h
          have k0 : (0 : Int) ≤ (k : Int) := by omega
          have k1 : (k : Int) < (n0 : Int) := by omega
          generalize vs[k] = x at *
          cases hA : decide (x ∈ xs) with
          | false =>
            have HST := Lib.hid (hst (by rw [hA]; rintro ⟨h, _⟩; cases h))
            have HXA := Lib.hid hA
            clear hst hA
            go_wp2_with fail
            refine (ref_has_any a1 n1 c1 _ xs x _ H1.out s1 (by unfold maxLen; omega)).mono ?_
            rintro e w' ⟨rfl, rfl⟩
            rw [HXA.out]
            go_wp2
            go_round
            case rel => exact ⟨k + 1, by omega, by go_num, HST⟩
            case measure => simp [intOf]; omega
          | true =>
            cases hB : decide (x ∈ ys) with
            | false =>
              have HST := Lib.hid (hst (by rw [hB]; rintro ⟨_, h⟩; cases h))
              have HXA := Lib.hid hA
              have HXB := Lib.hid hB
              clear hst hA hB
              go_wp2_with fail
              refine (ref_has_any a1 n1 c1 _ xs x _ H1.out s1 (by unfold maxLen; omega)).mono ?_
              rintro e w' ⟨rfl, rfl⟩
              rw [HXA.out]
              go_wp2_with fail
              refine (ref_has_any a2 n2 c2 _ ys x _ H2.out s2 (by unfold maxLen; omega)).mono ?_
              rintro e w' ⟨rfl, rfl⟩
              rw [HXB.out]
              go_wp2
              go_round
              case rel => exact ⟨k + 1, by omega, by go_num, HST⟩
              case measure => simp [intOf]; omega
            | true =>
              have HXA := Lib.hid hA
              have HXB := Lib.hid hB
              clear hst hA hB
              go_wp2_with fail
              refine (ref_has_any a1 n1 c1 _ xs x _ H1.out s1 (by unfold maxLen; omega)).mono ?_
              rintro e w' ⟨rfl, rfl⟩
              rw [HXA.out]
              go_wp2_with fail
              refine (ref_has_any a2 n2 c2 _ ys x _ H2.out s2 (by unfold maxLen; omega)).mono ?_
              rintro e w' ⟨rfl, rfl⟩
              rw [HXB.out]
              go_wp2_with fail
              refine (reached_shown _).mono ?_
              rintro e w3 ⟨rfl, hb3⟩
              go_wp2
              go_ret
              exact ⟨rfl, hb02.trans (hb3.mono hb02.size)⟩
        · have hno := hs.out
          rw [List.take_of_length_le (by rw [H0.out]; omega)] at hno
          obtain ⟨x, hx, h1, h2⟩ := HM.out
          exact absurd ⟨h1, h2⟩ (hno x hx)
set_option maxHeartbeats 4000000 in
theorem walk_next (a0 : Option Addr) (n0 c0 : Nat) (vs : List Int) (v : Int) (a1 : Option Addr) (n1 c1 : Nat) (xs : List Int) (a2 : Option Addr) (n2 c2 : Nat) (ys : List Int) (w : World) (h0 : vs.length = n0) (r0 : Rd w w.heap.size a0 (ci vs)) (m0 : n0 ≤ maxLen)
    (h1 : xs.length = n1) (r1 : Rd w w.heap.size a1 (ci xs)) (h2 : ys.length = n2) (r2 : Rd w w.heap.size a2 (ci ys)) :
    Calls Try.prog 7 #[.slice a0 n0 c0, .int .i64 v, .slice a1 n1 c1, .slice a2 n2 c2] w fun e w' => e = .returned (.bool true) ∧ Below w.heap.size w w' := by
  have H0 := Lib.hid h0; have H1 := Lib.hid h1; have H2 := Lib.hid h2
  clear h0 h1 h2
  have M0 := Lib.hid m0
  unfold maxLen at m0
  by_cases l0 : 16 ≤ n0
  · go_enter Try.func7, Try.ntmps7
    go_wp2_with fail
    go_ret
    exact ⟨rfl, Below.refl _ _⟩
  by_cases l1 : 300 < n1
  · go_enter Try.func7, Try.ntmps7
    go_wp2_with fail
    go_ret
    exact ⟨rfl, Below.refl _ _⟩
  by_cases l2 : 300 < n2
  · go_enter Try.func7, Try.ntmps7
    go_wp2_with fail
    go_ret
    exact ⟨rfl, Below.refl _ _⟩
  cases hS : isS vs with
  | false =>
    have HS := Lib.hid hS; clear hS
    go_enter Try.func7, Try.ntmps7
    go_wp2_with fail
    refine (ref_is_any a0 n0 c0 _ vs w H0.out r0 M0.out).mono ?_
    rintro e w1 ⟨rfl, hb1⟩
    rw [HS.out]
    go_wp2
    go_ret
    exact ⟨rfl, hb1⟩
  | true =>
  have HUP := Lib.hid (isS_iff.1 hS).1
  have HS := Lib.hid hS; clear hS
  cases hra : reachedP vs xs with
  | false =>
    have HA := Lib.hid hra; clear hra
    go_enter Try.func7, Try.ntmps7
    go_wp2_with fail
    refine (ref_is_any a0 n0 c0 _ vs w H0.out r0 M0.out).mono ?_
    rintro e w0 ⟨rfl, hb0⟩
    rw [HS.out]
    go_wp2_with fail
    refine (reached_any a0 a1 n0 c0 n1 c1 _ vs xs w0 H0.out H1.out (r0.below hb0 (Nat.le_refl _)) (r1.below hb0 (Nat.le_refl _)) hb0.size (by omega) (by omega)).mono ?_
    rintro e w1 ⟨rfl, hb1⟩
    rw [HA.out]
    have hb01 := hb0.trans (hb1.mono hb0.size)
    go_wp2_with fail
    refine (reached_shown w1).mono ?_
    rintro e w2 ⟨rfl, hb2⟩
    go_wp2
    go_ret
    exact ⟨rfl, hb01.trans (hb2.mono hb01.size)⟩
  | true =>
    have hil : (ins v vs).length ≤ 17 := by have := length_ins_le (n := v) vs; have := H0.out; omega
    cases hrb : reachedP (ins v vs) ys with
    | false =>
      have HA := Lib.hid hra; clear hra
      have HB := Lib.hid hrb; clear hrb
      go_enter Try.func7, Try.ntmps7
      go_wp2_with fail
      refine (ref_is_any a0 n0 c0 _ vs w H0.out r0 M0.out).mono ?_
      rintro e w0 ⟨rfl, hb0⟩
      rw [HS.out]
      go_wp2_with fail
      refine (reached_any a0 a1 n0 c0 n1 c1 _ vs xs w0 H0.out H1.out (r0.below hb0 (Nat.le_refl _)) (r1.below hb0 (Nat.le_refl _)) hb0.size (by omega) (by omega)).mono ?_
      rintro e w1 ⟨rfl, hb1⟩
      rw [HA.out]
      have hb01 := hb0.trans (hb1.mono hb0.size)
      go_wp2_with fail
      refine (ref_put_any a0 n0 c0 _ vs v w1 HUP.out H0.out (r0.below hb01 (Nat.le_refl _)) hb01.size (by omega)).mono ?_
      rintro e w2 ⟨oP, rfl, hownP, hb2⟩
      obtain ⟨aP, cP, rfl, rP⟩ := rd_own hownP
      have hb012 := hb01.trans (hb2.mono hb01.size)
      clear hownP
      go_wp2_with fail
      refine (reached_any aP a2 _ cP n2 c2 w2.heap.size (ins v vs) ys w2 rfl H2.out rP ((r2.below hb012 (Nat.le_refl _)).more hb012.size) (Nat.le_refl _) (by omega) (by omega)).mono ?_
      rintro e w3 ⟨rfl, hb3⟩
      have hb02 := hb012.trans (hb3.mono hb012.size)
      rw [HB.out]
      go_wp2_with fail
      refine (reached_shown w3).mono ?_
      rintro e w4 ⟨rfl, hb4⟩
      go_wp2
      go_ret
      exact ⟨rfl, hb02.trans (hb4.mono hb02.size)⟩
    | true =>
      have HM := Lib.hid (meets_next hra hrb)
      have HA := Lib.hid hra; clear hra
      have HB := Lib.hid hrb; clear hrb
      go_enter Try.func7, Try.ntmps7
      go_wp2_with fail
      refine (ref_is_any a0 n0 c0 _ vs w H0.out r0 M0.out).mono ?_
      rintro e w0 ⟨rfl, hb0⟩
      rw [HS.out]
      go_wp2_with fail
      refine (reached_any a0 a1 n0 c0 n1 c1 _ vs xs w0 H0.out H1.out (r0.below hb0 (Nat.le_refl _)) (r1.below hb0 (Nat.le_refl _)) hb0.size (by omega) (by omega)).mono ?_
      rintro e w1 ⟨rfl, hb1⟩
      rw [HA.out]
      have hb01 := hb0.trans (hb1.mono hb0.size)
      go_wp2_with fail
      refine (ref_put_any a0 n0 c0 _ vs v w1 HUP.out H0.out (r0.below hb01 (Nat.le_refl _)) hb01.size (by omega)).mono ?_
      rintro e w2 ⟨oP, rfl, hownP, hb2⟩
      obtain ⟨aP, cP, rfl, rP⟩ := rd_own hownP
      have hb012 := hb01.trans (hb2.mono hb01.size)
      clear hownP
      go_wp2_with fail
      refine (reached_any aP a2 _ cP n2 c2 w2.heap.size (ins v vs) ys w2 rfl H2.out rP ((r2.below hb012 (Nat.le_refl _)).more hb012.size) (Nat.le_refl _) (by omega) (by omega)).mono ?_
      rintro e w3 ⟨rfl, hb3⟩
      have hb02 := hb012.trans (hb3.mono hb012.size)
      rw [HB.out]
      have s0 := r0.below hb02 (Nat.le_refl _)
      have s1 := r1.below hb02 (Nat.le_refl _)
      have s2 := r2.below hb02 (Nat.le_refl _)
      clear r0 r1 r2 hb0 hb1 hb2 hb3 rP hb01 hb012
      go_wp2_with fail
      go_loop [9] (fun i => ∃ k : Nat, k ≤ n0 ∧ i = .int .i64 k ∧ Hid (∀ x ∈ vs.take k, ¬ (x ∈ xs ∧ x ∈ ys))) (fun i => n0 - (intOf i).toNat)
      case atStart => exact ⟨0, Nat.zero_le _, rfl, Lib.hid (by simp)⟩
      case round =>
        obtain ⟨k, hk, rfl, hs⟩ := hrel
        by_cases hlt : k < n0
        · obtain ⟨b, o, rfl, _, hc⟩ := s0.pos (by rw [length_ci, H0.out]; omega)
          have hck := hc k (by rw [length_ci, H0.out]; omega)
          rw [ci_get] at hck
          clear hc
          have lk : k < vs.length := by rw [H0.out]; exact hlt
          have hst := fun h => none_take_succ lk hs.out h
          have k0 : (0 : Int) ≤ (k : Int) := by omega
          have k1 : (k : Int) < (n0 : Int) := by omega
          generalize vs[k] = x at *
          cases hA : decide (x ∈ xs) with
          | false =>
            have HST := Lib.hid (hst (by rw [hA]; rintro ⟨h, _⟩; cases h))
            have HXA := Lib.hid hA
            clear hst hA
            go_wp2_with fail
            refine (ref_has_any a1 n1 c1 _ xs x _ H1.out s1 (by unfold maxLen; omega)).mono ?_
            rintro e w' ⟨rfl, rfl⟩
            rw [HXA.out]
            go_wp2
            go_round
            case rel => exact ⟨k + 1, by omega, by go_num, HST⟩
            case measure => simp [intOf]; omega
          | true =>
            cases hB : decide (x ∈ ys) with
            | false =>
              have HST := Lib.hid (hst (by rw [hB]; rintro ⟨_, h⟩; cases h))
              have HXA := Lib.hid hA
              have HXB := Lib.hid hB
              clear hst hA hB
              go_wp2_with fail
              refine (ref_has_any a1 n1 c1 _ xs x _ H1.out s1 (by unfold maxLen; omega)).mono ?_
              rintro e w' ⟨rfl, rfl⟩
              rw [HXA.out]
              go_wp2_with fail
              refine (ref_has_any a2 n2 c2 _ ys x _ H2.out s2 (by unfold maxLen; omega)).mono ?_
              rintro e w' ⟨rfl, rfl⟩
              rw [HXB.out]
              go_wp2
              go_round
              case rel => exact ⟨k + 1, by omega, by go_num, HST⟩
              case measure => simp [intOf]; omega
            | true =>
              have HXA := Lib.hid hA
              have HXB := Lib.hid hB
              clear hst hA hB
              go_wp2_with fail
              refine (ref_has_any a1 n1 c1 _ xs x _ H1.out s1 (by unfold maxLen; omega)).mono ?_
              rintro e w' ⟨rfl, rfl⟩
              rw [HXA.out]
              go_wp2_with fail
              refine (ref_has_any a2 n2 c2 _ ys x _ H2.out s2 (by unfold maxLen; omega)).mono ?_
              rintro e w' ⟨rfl, rfl⟩
              rw [HXB.out]
              go_wp2_with fail
              refine (reached_shown _).mono ?_
              rintro e w3 ⟨rfl, hb3⟩
              go_wp2
              go_ret
              exact ⟨rfl, hb02.trans (hb3.mono hb02.size)⟩
        · have hno := hs.out
          rw [List.take_of_length_le (by rw [H0.out]; omega)] at hno
          obtain ⟨x, hx, h1, h2⟩ := HM.out
          exact absurd ⟨h1, h2⟩ (hno x hx)

set_option maxHeartbeats 4000000 in
theorem walk_grows (a0 : Option Addr) (n0 c0 : Nat) (vs : List Int) (pat more : Int) (w : World) (h0 : vs.length = n0) (r0 : Rd w w.heap.size a0 (ci vs)) :
    Calls Try.prog 8 #[.slice a0 n0 c0, .int .i64 pat, .int .i64 more] w fun e w' => e = .returned (.bool true) ∧ Below w.heap.size w w' := by
  obtain ⟨i0, hi, hz0, hz1, hz2⟩ := info_parts info_num
  have H0 := Lib.hid h0
  clear h0
  by_cases l0 : 300 < n0
  · go_enter Try.func8, Try.ntmps8
    go_wp2_with fail
    refine (sure_shown w).mono ?_
    rintro e w1 ⟨rfl, hb1⟩
    go_wp2
    go_ret
    exact ⟨rfl, hb1⟩
  by_cases l1 : pat < 0
  · go_enter Try.func8, Try.ntmps8
    go_wp2_with fail
    refine (sure_shown w).mono ?_
    rintro e w1 ⟨rfl, hb1⟩
    go_wp2
    go_ret
    exact ⟨rfl, hb1⟩
  obtain ⟨p, rfl⟩ : ∃ p : Nat, pat = (p : Int) := ⟨pat.toNat, by omega⟩
  by_cases l2 : n0 ≤ p
  · go_enter Try.func8, Try.ntmps8
    go_wp2_with fail
    refine (sure_shown w).mono ?_
    rintro e w1 ⟨rfl, hb1⟩
    go_wp2
    go_ret
    exact ⟨rfl, hb1⟩
  obtain ⟨b, o, rfl, hB1, hc⟩ := r0.pos (by rw [length_ci, H0.out]; omega)
  have hcell := fun (k : Nat) (h : k < vs.length) => (hc k (by rw [length_ci]; exact h)).trans (congrArg some (ci_get vs k (by rw [length_ci]; exact h)))
  have HC := Lib.hid hcell
  clear hcell hc
  have lp : p < vs.length := by rw [H0.out]; omega
  have hcp := HC.out p lp
  have p0 : (0 : Int) ≤ (p : Int) := by omega
  have p1 : (p : Int) < (n0 : Int) := by omega
  have hgrow := fun (n m : Int) (h : SureIs vs n) (hv : vs[p] ≤ more) (g : SureIs (vs.set p more) m) => sure_grows h lp hv g
  generalize hv : vs[p] = v at *
  have HV := Lib.hid hv; clear hv
  by_cases l3 : more < v
  · clear hgrow
    go_enter Try.func8, Try.ntmps8
    go_wp2_with fail
    refine (sure_shown w).mono ?_
    rintro e w1 ⟨rfl, hb1⟩
    go_wp2
    go_ret
    exact ⟨rfl, hb1⟩
  have hge : v ≤ more := by omega
  have HG := Lib.hid (fun n m h g => hgrow n m h hge g)
  clear hgrow
  have hne : vs ≠ [] := by intro e; rw [e] at lp; simp at lp
  have HNE := Lib.hid hne; clear hne
  go_enter Try.func8, Try.ntmps8
  go_wp2_with fail
  refine (sure_any _ n0 c0 _ vs w H0.out r0 (Nat.le_refl _) (by omega)).mono ?_
  rintro e w1 ⟨hb1, ⟨hx, rfl⟩ | ⟨s1, hs1, rfl⟩⟩
  · exact absurd hx HNE.out
  have HS1 := Lib.hid hs1; clear hs1
  go_wp2_with fail
  go_loopw [9, 10, 11] (fun oa ob i wr => ∃ (k : Nat) (oa' ob' : Value), oa' = oa ∧ ob' = ob ∧ k ≤ n0 ∧ i = .int .i64 k ∧ wr.ownsRow w1.heap.size 3 1 oa' k (ci (vs.reverse.take k)) ∧ wr.ownsRow w1.heap.size 3 1 ob' k (ci (vs.take k)) ∧ Below w1.heap.size w1 wr ∧ (∀ g, oa'.ownBlock = some g → ob'.ownBlock ≠ some g)) (fun _ _ i _ => n0 - (intOf i).toNat)
  case atStart => exact ⟨0, _, _, rfl, rfl, Nat.zero_le _, rfl, World.ownsRow_nil _ _ _ _, World.ownsRow_nil _ _ _ _, Below.refl _ _, fun g h => by cases h⟩
  case round =>
    obtain ⟨k, oa', ob', rfl, rfl, hk, rfl, hoA, hoB, hb, hab⟩ := hrel
    by_cases hlt : k < n0
    · obtain ⟨j, hj⟩ : ∃ j, k + j + 1 = n0 := ⟨n0 - k - 1, by omega⟩
      have lk : k < vs.length := by rw [H0.out]; exact hlt
      have lj : j < vs.length := by rw [H0.out]; omega
      have hb0 := hb1.trans (hb.mono hb1.size)
      have hck := (hb0.cell (p := ⟨b, o + k, none⟩) hB1).trans (HC.out k lk)
      have hcj := (hb0.cell (p := ⟨b, o + j, none⟩) hB1).trans (HC.out j lj)
      have hkr : k < vs.reverse.length := by simpa using lk
      have eR : vs.reverse[k] = vs[j] := by
        rw [List.getElem_reverse]
        congr 1
        have := H0.out
        omega
      have tA : vs.reverse.take (k + 1) = vs.reverse.take k ++ [vs[j]] := by rw [List.take_succ_eq_append_getElem hkr, eR]
      have tB : vs.take (k + 1) = vs.take k ++ [vs[k]] := List.take_succ_eq_append_getElem lk
      have TA := Lib.hid tA; have TB := Lib.hid tB
      clear tA tB eR
      have k0 : (0 : Int) ≤ (k : Int) := by omega
      have k1 : (k : Int) < (n0 : Int) := by omega
      have HJ := Lib.hid hj
      have j0 : (n0 : Int) - 1 - (k : Int) = (j : Int) := by omega
      clear hj
      generalize vs[k] = x at *
      generalize vs[j] = y at *
      go_wp2_with (at_builtin; refine wpList_append_own_at _ rfl _ _ 25 rfl w1.heap.size 3 i0 (.int .i64 0) 1 8 Try.underlying25 hi hz0 hz1 hz2 rfl (by decide) _ _ _ rfl (hoA.alloc _) ⟨_, 0, none⟩ 1 1 [.int .i64 y] rfl rfl ?c1 ?c2 ?c3 ?c4 ?c5 ?_)
      case c1 => exact cell_one _ _ _
      case c2 => intro u hu; simp at hu; subst hu; rfl
      case c3 => unfold maxLen; omega
      case c4 => omega
      case c5 => have := hb.size; simp; omega
      intro oA2 w2 hoA2 hg2 _ hat2
      have hb2 := (hb.alloc hb.size (.cells #[.int .i64 y] 3)).grown hg2 (by have := hb.size; simp; omega) (fun j hj => (hoA.lt j hj).1)
      have hoB2 : w2.ownsRow w1.heap.size 3 1 ob' k (ci (vs.take k)) := World.ownsRow.kept (hoB.alloc (.cells #[.int .i64 y] 3)) hg2 (by
        cases hq : ob'.ownBlock with
        | none => exact .inl rfl
        | some g => refine .inr fun e => ?_; exact hab g e.symm hq)
      have hck2 := (hb2.cell (p := ⟨b, o + k, none⟩) (Nat.lt_of_lt_of_le hB1 hb1.size)).trans ((hb.cell (p := ⟨b, o + k, none⟩) (Nat.lt_of_lt_of_le hB1 hb1.size)).symm.trans hck)
      have hab2 : ∀ g, oA2.ownBlock = some g → ob'.ownBlock ≠ some g := by
        intro g hg hq
        rcases hat2 with e | e
        · exact hab g (e ▸ hg) hq
        · have h1 := (hoB.lt g hq).2
          rw [hg] at e
          simp only [Option.some.injEq] at e
          omega
      clear hcj hat2
      go_wp2_with (at_builtin; refine wpList_append_own_at _ rfl _ _ 25 rfl w1.heap.size 3 i0 (.int .i64 0) 1 8 Try.underlying25 hi hz0 hz1 hz2 rfl (by decide) _ _ _ rfl (hoB2.alloc _) ⟨_, 0, none⟩ 1 1 [.int .i64 x] rfl rfl ?d1 ?d2 ?d3 ?d4 ?d5 ?_)
      case d1 => exact cell_one _ _ _
      case d2 => intro u hu; simp at hu; subst hu; rfl
      case d3 => unfold maxLen; omega
      case d4 => omega
      case d5 => have := hb2.size; simp; omega
      intro oB3 w3 hoB3 hg3 _ hat3
      have hb3 := (hb2.alloc hb2.size (.cells #[.int .i64 x] 3)).grown hg3 (by have := hb2.size; simp; omega) (fun j hj => (hoB2.lt j hj).1)
      have hoA3 : w3.ownsRow w1.heap.size 3 1 oA2 (k + 1) (ci (vs.reverse.take k) ++ [.int .i64 y]) := World.ownsRow.kept (hoA2.alloc (.cells #[.int .i64 x] 3)) hg3 (by
        cases hq : oA2.ownBlock with
        | none => exact .inl rfl
        | some g => refine .inr fun e => ?_; exact hab2 g hq e.symm)
      have hab3 : ∀ g, oA2.ownBlock = some g → oB3.ownBlock ≠ some g := by
        intro g hg hq
        rcases hat3 with e | e
        · exact hab2 g hg (e ▸ hq)
        · have h1 := (hoA2.lt g hg).2
          rw [hq] at e
          simp only [Option.some.injEq] at e
          omega
      have fA : w3.ownsRow w1.heap.size 3 1 oA2 (k + 1) (ci (vs.reverse.take (k + 1))) := by rw [TA.out, ci_append]; exact hoA3
      have fB : w3.ownsRow w1.heap.size 3 1 oB3 (k + 1) (ci (vs.take (k + 1))) := by rw [TB.out, ci_append]; exact hoB3
      clear hoA2 hoB2 hoA3 hoB3 hat3
      go_wp2_with fail
      go_roundw
      case rel => exact ⟨k + 1, _, _, rfl, rfl, by omega, by go_num, fA, fB, hb3, hab3⟩
      case measure => simp [intOf]; omega
    · have hkn : k = n0 := by omega
      have e1 : vs.reverse.take k = vs.reverse := List.take_of_length_le (by rw [List.length_reverse, H0.out]; omega)
      have e2 : vs.take k = vs := List.take_of_length_le (by rw [H0.out]; omega)
      rw [e1] at hoA
      rw [e2] at hoB
      have HKN := Lib.hid hkn
      clear e1 e2 hkn
      obtain ⟨aA, cA, rfl⟩ := own_len hoA
      obtain ⟨g, cB, rfl, hgb, hgl⟩ := World.ownsRow.form hoB (by have := HKN.out; omega)
      have hgA : ∀ g', (Value.slice aA k cA).ownBlock = some g' → g' ≠ g := fun g' h e => hab g' h (by rw [e]; rfl)
      have hck := hoB.cellAt p (by have := HKN.out; omega)
      rw [List.getElem?_eq_getElem (by rw [length_ci]; exact lp), ci_get] at hck
      have hfz := hoB.frozenAt p
      have hst := hoB.stored p (.int .i64 more)
      have hbs := hb.setCell (p := ⟨g, p, none⟩) hgb (.int .i64 more)
      have hoA4 := World.ownsRow.kept hoA hst.2 (by
        cases hq : (Value.slice aA k cA).ownBlock with
        | none => exact .inl rfl
        | some g' => refine .inr fun e => ?_; simp only [Option.some.injEq] at e; exact hgA g' hq e)
      have hoB4 := hst.1
      have eS : (ci vs).set p (.int .i64 more) = ci (vs.set p more) := by simp [ci, List.map_set]
      rw [eS] at hoB4
      have HOA := Lib.hid hoA4; have HOB := Lib.hid hoB4
      have pk : (p : Int) < (k : Int) := by have := HKN.out; omega
      clear hst hoA hoB hoA4 hoB4 eS hab hgA
      have rA := rd_own1 HOA.out
      have rB := rd_own1 HOB.out
      go_wp2_with fail
      refine (sure_any aA k cA _ vs.reverse _ (by rw [List.length_reverse, H0.out]; exact HKN.out.symm) rA (Nat.le_refl _) (by have := HKN.out; omega)).mono ?_
      rintro e w2 ⟨hb2, ⟨hx, rfl⟩ | ⟨s2, hs2, rfl⟩⟩
      · exact absurd (List.reverse_eq_nil_iff.1 hx) HNE.out
      have hs12 : s2 = s1 := sure_one hs2 (sure_reverse HS1.out)
      rw [hs12]
      clear hs2 hs12
      go_wp2_with fail
      refine (sure_any _ k cB _ (vs.set p more) w2 (by rw [List.length_set, H0.out]; exact HKN.out.symm) (rB.below hb2 (Nat.le_refl _)) hb2.size (by have := HKN.out; omega)).mono ?_
      rintro e w3 ⟨hb3, ⟨hx, rfl⟩ | ⟨s3, hs3, rfl⟩⟩
      · exact absurd hx (by intro e; have := congrArg List.length e; rw [List.length_set, List.length_nil] at this; omega)
      have hfin : s1 ≤ s3 := HG.out s1 s3 HS1.out hs3
      clear hs3
      have hB13 := hbs.trans ((hb2.trans (hb3.mono hb2.size)).mono hbs.size)
      have hB03 := hb1.trans (hB13.mono hb1.size)
      go_wp2_with fail
      refine (sure_shown w3).mono ?_
      rintro e w4 ⟨rfl, hb4⟩
      have hq : (s1 == s1) = true := by simp
      go_wp2
      go_ret
      exact ⟨by simp, hB03.trans (hb4.mono hB03.size)⟩
end Go.Proofs.Ytdoieefkpafgcaa
