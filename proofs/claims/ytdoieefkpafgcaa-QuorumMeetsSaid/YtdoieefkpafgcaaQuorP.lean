/-
  quorum's Majority, Reached, by contract (the program's).
-/
import Derived.Test.YtdoieefkpafgcaaQuorA
namespace Go.Proofs.Ytdoieefkpafgcaa
open Go.RowKit

theorem majority_one (n : Int) (w : World) (hn : -9223372036854775808 ≤ n ∧ n ≤ 9223372036854775807) :
    Calls Try.prog 9 #[.int .i64 n] w fun e w' => e = .returned (.int .i64 (majP n)) ∧ w = w' := by
  obtain ⟨h0, h1⟩ := hn
  by_cases h : n < 1
  · have HM := Lib.hid (majP_no h)
    go_enter Try.func9, Try.ntmps9
    go_wp2
    go_ret
    exact ⟨by rw [HM.out]; rfl, rfl⟩
  · have HM := Lib.hid (majP_yes h)
    have h3 : 0 ≤ n := by omega
    go_enter Try.func9, Try.ntmps9
    go_wp2
    go_ret
    exact ⟨by rw [HM.out]; rfl, rfl⟩
theorem majority_any (n : Int) (w : World) (hn : -9223372036854775808 ≤ n ∧ n ≤ 9223372036854775807) :
    Calls Try.prog 9 #[.int .i64 n] w fun e w' => e = .returned (.int .i64 (majP n)) ∧ Below w.heap.size w w' :=
  (majority_one n w hn).mono fun _ _ ⟨h1, h2⟩ => ⟨h1, h2 ▸ Below.refl _ _⟩

/-- A row of numbers, asked by its method. -/
theorem crowd_has (a : Option Addr) (n c B : Nat) (xs : List Int) (v : Int) (w : World) (hl : xs.length = n) (hr : Rd w B a (ci xs)) (hm : n ≤ maxLen) :
    Calls Try.prog 25 #[.slice a n c, .int .i64 v] w fun e w' => e = .returned (.bool (decide (v ∈ xs))) ∧ w = w' := by
  have hc := has_any a n c B xs v w hl hr hm
  generalize decide (v ∈ xs) = b at *
  have HC := Lib.hid hc; clear hc hl
  go_enter Try.func25, Try.ntmps25
  go_wp2_with fail
  refine HC.out.mono ?_
  rintro e w' ⟨rfl, rfl⟩
  go_wp2
  go_ret
  exact ⟨rfl, rfl⟩

set_option maxHeartbeats 1000000 in
theorem count_any (a1 a2 : Option Addr) (n1 c1 n2 c2 B : Nat) (xs ys : List Int) (w : World) (h1 : xs.length = n1) (h2 : ys.length = n2) (r1 : Rd w B a1 (ci xs)) (r2 : Rd w B a2 (ci ys)) (m1 : n1 ≤ 1000) (m2 : n2 ≤ 1000) :
    Calls Try.prog 24 #[.slice a1 n1 c1, .func (.func 25) #[.slice a2 n2 c2] #[]] w fun e w' => e = .returned (.int .i64 (cnt xs ys : Nat)) ∧ w = w' := by
  have H1 := Lib.hid h1; have H2 := Lib.hid h2
  clear h1 h2
  go_enter Try.func24, Try.ntmps24
  go_wp2
  go_loop [5, 10] (fun q i => ∃ k : Nat, k ≤ n1 ∧ i = .int .i64 k ∧ q = .int .i64 (cnt (xs.take k) ys : Nat)) (fun _ i => n1 - (intOf i).toNat)
  case atStart => exact ⟨0, Nat.zero_le _, rfl, rfl⟩
  case round =>
    obtain ⟨k, hk, rfl, rfl⟩ := hrel
    have hcl := cnt_take_le (voters := xs) (yes := ys) (k := k)
    by_cases hlt : k < n1
    · obtain ⟨b, o, rfl, _, hc⟩ := r1.pos (by rw [length_ci, H1.out]; omega)
      have hck := hc k (by rw [length_ci, H1.out]; omega)
      rw [ci_get] at hck
      clear hc
      have l1 : k < xs.length := by rw [H1.out]; exact hlt
      have hin := fun h => cnt_take_in (yes := ys) l1 h
      have hout := fun h => cnt_take_out (yes := ys) l1 h
      have k0 : (0 : Int) ≤ (k : Int) := by omega
      have k1 : (k : Int) < (n1 : Int) := by omega
      generalize xs[k] = x at *
      by_cases hm : decide (x ∈ ys) = true
      · have HIN := Lib.hid (hin hm)
        have HM := Lib.hid hm
        clear hin hout hm
        go_wp2_with fail
        refine (crowd_has a2 n2 c2 B ys x w H2.out r2 (by unfold maxLen; omega)).mono ?_
        rintro e w' ⟨rfl, rfl⟩
        rw [HM.out]
        go_wp2
        go_round
        case rel => exact ⟨k + 1, by omega, by go_num, by rw [HIN.out]; go_num⟩
        case measure => simp [intOf]; omega
      · have hm : decide (x ∈ ys) = false := by simpa using hm
        have HOUT := Lib.hid (hout hm)
        have HM := Lib.hid hm
        clear hin hout hm
        go_wp2_with fail
        refine (crowd_has a2 n2 c2 B ys x w H2.out r2 (by unfold maxLen; omega)).mono ?_
        rintro e w' ⟨rfl, rfl⟩
        rw [HM.out]
        go_wp2
        go_round
        case rel => exact ⟨k + 1, by omega, by go_num, by rw [HOUT.out]⟩
        case measure => simp [intOf]; omega
    · have hpe : xs.take k = xs := List.take_of_length_le (by rw [H1.out]; omega)
      rw [hpe] at hcl ⊢
      clear hpe
      go_wp2
      go_ret
      exact ⟨rfl, rfl⟩

theorem maj_dec {v y : List Int} (hi : isS v = true) (h0 : ¬ v.length = 0) : decide (majP (v.length : Int) ≤ (cnt v y : Nat)) = reachedP v y := by
  rw [reachedP_of hi, majP_yes (by omega)]
  by_cases h : v.length < 2 * cnt v y
  · rw [decide_eq_true h, decide_eq_true (by omega)]
  · rw [decide_eq_false h, decide_eq_false (by omega)]

set_option maxHeartbeats 1000000 in
theorem reached_any (a1 a2 : Option Addr) (n1 c1 n2 c2 B : Nat) (xs ys : List Int) (w : World) (h1 : xs.length = n1) (h2 : ys.length = n2) (r1 : Rd w B a1 (ci xs)) (r2 : Rd w B a2 (ci ys)) (hB : B ≤ w.heap.size) (m1 : n1 ≤ 1000) (m2 : n2 ≤ 1000) :
    Calls Try.prog 13 #[.slice a1 n1 c1, .slice a2 n2 c2] w fun e w' => e = .returned (.bool (reachedP xs ys)) ∧ Below w.heap.size w w' := by
  have hmf : ∀ (fn : Fn) (first cap : Array Value) (w : World), (Instr.makeFunc fn first cap).run Try.prog w = .ok (.func fn first cap) w := fun _ _ _ _ => rfl
  by_cases h0 : n1 = 0
  · subst h0
    have HR := Lib.hid (reachedP_empty (y := ys) h1)
    clear h1
    go_enter Try.func13, Try.ntmps13
    go_wp2_with fail
    go_ret
    exact ⟨by rw [HR.out]; rfl, Below.refl _ _⟩
  · have hz : ((n1 : Int) == 0) = false := by simp; omega
    have hc := is_any a1 n1 c1 B xs w h1 r1 (by unfold maxLen; omega)
    have HN := Lib.hid (fun (w1 : World) (hb : Below w.heap.size w w1) => count_any a1 a2 n1 c1 n2 c2 B xs ys w1 h1 h2 (r1.below hb hB) (r2.below hb hB) m1 m2)
    have HM := Lib.hid (majority_one (n1 : Int))
    cases hS : isS xs with
    | false =>
      rw [hS] at hc
      have HC := Lib.hid hc; clear hc
      have HR := Lib.hid (reachedP_no (y := ys) hS)
      clear hS
      go_enter Try.func13, Try.ntmps13
      go_wp2_with fail
      refine HC.out.mono ?_
      rintro e w1 ⟨rfl, hb⟩
      go_wp2
      go_ret
      exact ⟨by rw [HR.out]; rfl, hb⟩
    | true =>
      rw [hS] at hc
      have HC := Lib.hid hc; clear hc
      have hd := maj_dec (y := ys) hS (by omega)
      rw [h1] at hd
      have hle : cnt xs ys ≤ n1 := h1 ▸ cnt_le xs ys
      generalize cnt xs ys = q at *
      generalize majP (n1 : Int) = m at *
      have HD := Lib.hid hd
      clear hd hS
      go_enter Try.func13, Try.ntmps13
      go_wp2_with fail
      refine HC.out.mono ?_
      rintro e w1 ⟨rfl, hb⟩
      go_wp2_with fail
      refine (HN.out w1 hb).mono ?_
      rintro e w2 ⟨rfl, rfl⟩
      go_wp2_with fail
      refine (HM.out w1 (by omega)).mono ?_
      rintro e w2 ⟨rfl, rfl⟩
      go_wp2_with fail
      go_ret
      exact ⟨by rw [← HD.out]; rfl, hb⟩
end Go.Proofs.Ytdoieefkpafgcaa
