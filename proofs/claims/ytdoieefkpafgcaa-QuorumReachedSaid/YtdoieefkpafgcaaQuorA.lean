/-
  The document's answer for layer 5, by contract: Enough, Majority, Reached, Sure.
-/
import Derived.Test.YtdoieefkpafgcaaSetsA
import Derived.Test.YtdoieefkpafgcaaQuorM
namespace Go.Proofs.Ytdoieefkpafgcaa
open Go.RowKit

theorem enough_any (k n : Int) (w : World) (h1 : -9223372036854775808 ≤ n - k) (h2 : n - k ≤ 9223372036854775807) :
    Calls Try.prog 11 #[.int .i64 k, .int .i64 n] w fun e w' => e = .returned (.bool (decide (n - k < k))) ∧ w = w' := by
  have hw : IntKind.i64.wrap (n - k) = n - k := IntWalk.i64_in _ (by omega)
  go_enter Try.func11, Try.ntmps11
  go_wp2
  go_ret
  exact ⟨rfl, rfl⟩

theorem ref_majority_any (n : Int) (w : World) (hn : -9223372036854775808 ≤ n ∧ n ≤ 9223372036854775807) :
    Calls Try.prog 10 #[.int .i64 n] w fun e w' => e = .returned (.int .i64 (majP n)) ∧ w = w' := by
  obtain ⟨h0, h1⟩ := hn
  by_cases h : n < 1
  · have HM := Lib.hid (majP_no h)
    go_enter Try.func10, Try.ntmps10
    go_wp2
    go_ret
    exact ⟨by rw [HM.out]; rfl, rfl⟩
  · have HM := Lib.hid (majP_yes h)
    have h3 : 0 ≤ n := by omega
    go_enter Try.func10, Try.ntmps10
    go_wp2
    go_ret
    exact ⟨by rw [HM.out]; rfl, rfl⟩

theorem dec_twice {a b : Nat} : decide ((a : Int) - (b : Int) < (b : Int)) = decide (a < 2 * b) := by
  by_cases h : a < 2 * b
  · rw [decide_eq_true h, decide_eq_true (by omega)]
  · rw [decide_eq_false h, decide_eq_false (by omega)]
theorem reach_all {v y : List Int} : (isS v && (decide (0 < v.length) && decide (v.length < 2 * cnt v y))) = reachedP v y := by
  unfold reachedP
  by_cases h : 0 < v.length
  · simp [h]
  · have h1 : v = [] := List.eq_nil_of_length_eq_zero (by omega)
    subst h1
    simp [cnt]

set_option maxHeartbeats 1000000 in
theorem ref_reached_any (a1 a2 : Option Addr) (n1 c1 n2 c2 B : Nat) (xs ys : List Int) (w : World) (h1 : xs.length = n1) (h2 : ys.length = n2) (r1 : Rd w B a1 (ci xs)) (r2 : Rd w B a2 (ci ys)) (m1 : n1 ≤ 1000) (m2 : n2 ≤ 1000) :
    Calls Try.prog 16 #[.slice a1 n1 c1, .slice a2 n2 c2] w fun e w' => e = .returned (.bool (reachedP xs ys)) ∧ Below w.heap.size w w' := by
  have H1 := Lib.hid h1; have H2 := Lib.hid h2
  clear h1 h2
  go_enter Try.func16, Try.ntmps16
  go_wp2
  go_loop [5, 6] (fun q i => ∃ k : Nat, k ≤ n1 ∧ i = .int .i64 k ∧ q = .int .i64 (cnt (xs.take k) ys : Nat)) (fun _ i => n1 - (intOf i).toNat)
  case atStart => exact ⟨0, Nat.zero_le _, rfl, rfl⟩
  case round =>
    obtain ⟨k, hk, rfl, rfl⟩ := hrel
    have hcl := cnt_take_le (voters := xs) (yes := ys) (k := k)
    by_cases hlt : k < n1
    · obtain ⟨b, o, rfl, _, hc⟩ := r1.pos (by rw [length_ci, H1.out]; omega)
      have hck := hc k (by rw [length_ci, H1.out]; omega)
      rw [ci_get] at hck
      clear hc
      have l1 : k < xs.length := by rw [H1.out]; exact hlt
      have hin := fun h => cnt_take_in (yes := ys) l1 h
      have hout := fun h => cnt_take_out (yes := ys) l1 h
      have k0 : (0 : Int) ≤ (k : Int) := by omega
      have k1 : (k : Int) < (n1 : Int) := by omega
      generalize xs[k] = x at *
      by_cases hm : decide (x ∈ ys) = true
      · have HIN := Lib.hid (hin hm)
        have HM := Lib.hid hm
        clear hin hout hm
        go_wp2_with fail
        refine (ref_has_any a2 n2 c2 B ys x w H2.out r2 (by unfold maxLen; omega)).mono ?_
        rintro e w' ⟨rfl, rfl⟩
        rw [HM.out]
        go_wp2
        go_round
        case rel => exact ⟨k + 1, by omega, by go_num, by rw [HIN.out]; go_num⟩
        case measure => simp [intOf]; omega
      · have hm : decide (x ∈ ys) = false := by simpa using hm
        have HOUT := Lib.hid (hout hm)
        have HM := Lib.hid hm
        clear hin hout hm
        go_wp2_with fail
        refine (ref_has_any a2 n2 c2 B ys x w H2.out r2 (by unfold maxLen; omega)).mono ?_
        rintro e w' ⟨rfl, rfl⟩
        rw [HM.out]
        go_wp2
        go_round
        case rel => exact ⟨k + 1, by omega, by go_num, by rw [HOUT.out]⟩
        case measure => simp [intOf]; omega
    · have hpe : xs.take k = xs := List.take_of_length_le (by rw [H1.out]; omega)
      rw [hpe] at hcl ⊢
      clear hpe
      have hall := reach_all (v := xs) (y := ys)
      rw [H1.out] at hall
      have HALL := Lib.hid hall; clear hall
      have HDT := Lib.hid (dec_twice (a := n1) (b := cnt xs ys))
      generalize cnt xs ys = q at *
      go_wp2_with fail
      refine (ref_is_any a1 n1 c1 B xs w H1.out r1 (by unfold maxLen; omega)).mono ?_
      rintro e w1 ⟨rfl, hb1⟩
      have HE := Lib.hid (show isS xs = isS xs from rfl)
      cases hS : isS xs with
      | false =>
        have HR := Lib.hid (reachedP_no (y := ys) hS)
        clear hS
        go_wp2
        go_ret
        exact ⟨by rw [HR.out]; rfl, hb1⟩
      | true =>
        rw [hS] at HALL
        clear hS
        by_cases h0 : 0 < n1
        · go_wp2_with fail
          refine (enough_any (q : Int) (n1 : Int) w1 (by omega) (by omega)).mono ?_
          rintro e w2 ⟨rfl, rfl⟩
          rw [HDT.out]
          have HL2 : Hid (decide (n1 < 2 * q) = reachedP xs ys) := Lib.hid (by rw [← HALL.out, decide_eq_true h0]; rfl)
          rw [HL2.out]
          go_wp2
          go_ret
          exact ⟨rfl, hb1⟩
        · have HL2 : Hid (reachedP xs ys = false) := Lib.hid (by rw [← HALL.out, decide_eq_false h0]; rfl)
          go_wp2
          go_ret
          exact ⟨by rw [HL2.out]; rfl, hb1⟩

/-- What a majority has, or the error. -/
def SurePost (l : List Int) (w : World) (e : Ending) (w' : World) : Prop :=
  Below w.heap.size w w' ∧ ((l = [] ∧ e = .returned (.tuple #[.int .i64 0, .int .i64 1])) ∨ ∃ b, SureIs l b ∧ e = .returned (.tuple #[.int .i64 b, .int .i64 0]))

set_option maxHeartbeats 2000000 in
theorem ref_sure_any (a : Option Addr) (n c B : Nat) (xs : List Int) (w : World) (hl : xs.length = n) (hr : Rd w B a (ci xs)) (hn : n ≤ 1000) :
    Calls Try.prog 18 #[.slice a n c] w (SurePost xs w) := by
  by_cases h0 : n = 0
  · subst h0
    have hx : xs = [] := List.eq_nil_of_length_eq_zero hl
    have HX := Lib.hid hx; clear hx hl
    go_enter Try.func18, Try.ntmps18
    go_wp2
    go_ret2
    exact ⟨Below.refl _ _, .inl ⟨HX.out, rfl⟩⟩
  · have hne : xs ≠ [] := by intro e; rw [e] at hl; simp at hl; omega
    have HNE := Lib.hid hne; clear hne
    have HL := Lib.hid hl; clear hl
    obtain ⟨b, o, rfl, _, hc⟩ := hr.pos (by rw [length_ci, HL.out]; omega)
    have hcell := fun (k : Nat) (h : k < xs.length) => (hc k (by rw [length_ci]; exact h)).trans (congrArg some (ci_get xs k (by rw [length_ci]; exact h)))
    have HC := Lib.hid hcell
    clear hc hcell hr
    have hn0 : ((n : Int) == 0) = false := by simp; omega
    go_enter Try.func18, Try.ntmps18
    go_wp2_with fail
    go_loopw [4, 5, 6] (fun best f i wr => ∃ (k : Nat) (bv : Int) (fv : Bool), k ≤ n ∧ i = .int .i64 k ∧ best = .int .i64 bv ∧ f = .bool fv ∧ Hid (SureAt xs k fv bv) ∧ ∃ d, wr = w.drewN d) (fun _ _ i _ => n - (intOf i).toNat)
    case atStart => exact ⟨0, 0, false, Nat.zero_le _, rfl, rfl, rfl, Lib.hid (sureAt_zero xs 0), 0, rfl⟩
    case round =>
      obtain ⟨k, bv, fv, hk, rfl, rfl, rfl, hat, d, rfl⟩ := hrel
      by_cases hlt : k < n
      · have lk : k < xs.length := by rw [HL.out]; exact hlt
        have hck := HC.out k lk
        have hnew := fun h g => sureAt_new hat.out lk h g
        have hold := fun h => sureAt_old hat.out lk h
        rw [HL.out] at hnew hold
        have k0 : (0 : Int) ≤ (k : Int) := by omega
        have k1 : (k : Int) < (n : Int) := by omega
        generalize xs[k] = x at *
        have HNEW := Lib.hid hnew; clear hnew
        have HOLD := Lib.hid hold; clear hold
        go_wp2_with fail
        go_loopw [7, 8] (fun q i wr => ∃ m : Nat, m ≤ n ∧ i = .int .i64 m ∧ q = .int .i64 (ge x (xs.take m) : Nat) ∧ ∃ d, wr = w.drewN d) (fun _ i _ => n - (intOf i).toNat)
        case atStart => exact ⟨0, Nat.zero_le _, rfl, rfl, d, rfl⟩
        case round =>
          obtain ⟨m, hm, rfl, rfl, d2, rfl⟩ := hrel
          have hgl := ge_take_le (x := x) (l := xs) (k := m)
          by_cases hlm : m < n
          · have lm : m < xs.length := by rw [HL.out]; exact hlm
            have hcm := HC.out m lm
            have hin := fun h => ge_take_in (x := x) lm h
            have hout := fun h => ge_take_out (x := x) lm h
            have m0 : (0 : Int) ≤ (m : Int) := by omega
            have m1 : (m : Int) < (n : Int) := by omega
            generalize xs[m] = y at *
            by_cases hxy : x ≤ y
            · have HIN := Lib.hid (hin hxy)
              clear hin hout
              go_wp2_with fail
              go_quiet (fail)
              go_wp2
              go_roundw
              case rel => exact ⟨m + 1, by omega, by go_num, by rw [HIN.out]; go_num, _, rfl⟩
              case measure => simp [intOf]; omega
            · have HOUT := Lib.hid (hout hxy)
              clear hin hout
              go_wp2_with fail
              go_quiet (fail)
              go_wp2
              go_roundw
              case rel => exact ⟨m + 1, by omega, by go_num, by rw [HOUT.out], _, rfl⟩
              case measure => simp [intOf]; omega
          · have hpe : xs.take m = xs := List.take_of_length_le (by rw [HL.out]; omega)
            rw [hpe] at hgl ⊢
            clear hpe
            have HDT := Lib.hid (dec_twice (a := n) (b := ge x xs))
            generalize ge x xs = q at *
            go_wp2_with fail
            refine (enough_any (q : Int) (n : Int) _ (by omega) (by omega)).mono ?_
            rintro e w2 ⟨rfl, rfl⟩
            rw [HDT.out]
            by_cases he : n < 2 * q
            · rw [decide_eq_true he]
              cases fv with
              | false =>
                have HN := Lib.hid (HNEW.out he (.inl rfl))
                go_wp2
                go_roundw
                case rel => exact ⟨k + 1, x, true, by omega, by go_num, rfl, rfl, HN, _, rfl⟩
                case measure => simp [intOf]; omega
              | true =>
                by_cases hb : bv < x
                · have HN := Lib.hid (HNEW.out he (.inr hb))
                  go_wp2
                  go_roundw
                  case rel => exact ⟨k + 1, x, true, by omega, by go_num, rfl, rfl, HN, _, rfl⟩
                  case measure => simp [intOf]; omega
                · have HO := Lib.hid (HOLD.out (.inr ⟨rfl, by omega⟩))
                  go_wp2
                  go_roundw
                  case rel => exact ⟨k + 1, bv, true, by omega, by go_num, rfl, rfl, HO, _, rfl⟩
                  case measure => simp [intOf]; omega
            · rw [decide_eq_false he]
              have HO := Lib.hid (HOLD.out (.inl he))
              go_wp2
              go_roundw
              case rel => exact ⟨k + 1, bv, fv, by omega, by go_num, rfl, rfl, HO, _, rfl⟩
              case measure => simp [intOf]; omega
      · have hE := Lib.hid (sureAt_end hat.out (by rw [HL.out]; omega) HNE.out)
        go_wp2
        go_ret2
        exact ⟨below_drawn (Below.refl _ _) _, .inr ⟨bv, hE.out, rfl⟩⟩
end Go.Proofs.Ytdoieefkpafgcaa
