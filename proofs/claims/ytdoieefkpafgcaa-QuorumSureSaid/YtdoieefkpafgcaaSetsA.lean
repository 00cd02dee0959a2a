/-
  Sets: whether a row is one, what it has, whether two are the same: the program's and the document's, by contract.
-/
import Derived.Test.YtdoieefkpafgcaaSetsK
namespace Go.Proofs.Ytdoieefkpafgcaa
open Go.RowKit

theorem mem_take_succ {xs : List Int} {k : Nat} {v : Int} (h : k < xs.length) (hn : v ∉ xs.take k) (hv : ¬ xs[k] = v) : v ∉ xs.take (k + 1) := by
  rw [List.take_succ_eq_append_getElem h]
  intro hm
  rcases List.mem_append.1 hm with hm | hm
  · exact hn hm
  · exact hv (List.mem_singleton.1 hm).symm
theorem mem_at {xs : List Int} {k : Nat} {v : Int} (h : k < xs.length) (hv : xs[k] = v) : decide (v ∈ xs) = true := by
  subst hv; simp
theorem mem_not {xs : List Int} {k : Nat} {v : Int} (hn : v ∉ xs.take k) (h : xs.length ≤ k) : decide (v ∈ xs) = false := by
  rw [List.take_of_length_le h] at hn; simpa using hn

set_option maxHeartbeats 1000000 in
theorem ref_has_any (a : Option Addr) (n c B : Nat) (xs : List Int) (v : Int) (w : World) (hl : xs.length = n) (hr : Rd w B a (ci xs)) (hm : n ≤ maxLen) :
    Calls Try.prog 20 #[.slice a n c, .int .i64 v] w fun e w' => e = .returned (.bool (decide (v ∈ xs))) ∧ w = w' := by
  unfold maxLen at hm
  have HL := Lib.hid hl; clear hl
  go_enter Try.func20, Try.ntmps20
  go_wp2
  go_loop [5] (fun i => ∃ k : Nat, k ≤ n ∧ i = .int .i64 k ∧ Hid (v ∉ xs.take k)) (fun i => n - (intOf i).toNat)
  case atStart => exact ⟨0, Nat.zero_le _, rfl, Lib.hid (by simp)⟩
  case round =>
    obtain ⟨k, hk, rfl, hs⟩ := hrel
    by_cases hlt : k < n
    · obtain ⟨b, o, rfl, _, hc⟩ := hr.pos (by rw [length_ci, HL.out]; omega)
      have hck := hc k (by rw [length_ci, HL.out]; omega)
      rw [ci_get] at hck
      clear hc
      have l1 : k < xs.length := by rw [HL.out]; exact hlt
      have hst := fun h => mem_take_succ l1 hs.out h
      have hat := fun h => mem_at (v := v) l1 h
      have k0 : (0 : Int) ≤ (k : Int) := by omega
      have k1 : (k : Int) < (n : Int) := by omega
      generalize xs[k] = x at *
      by_cases hxy : x = v
      · subst hxy
        have HAT := Lib.hid (hat rfl)
        clear hst hat
        go_wp2
        go_ret
        exact ⟨by rw [HAT.out]; rfl, rfl⟩
      · have HST := Lib.hid (hst hxy)
        clear hst hat
        have hb : (x == v) = false := by simpa using hxy
        have hb' : (v == x) = false := by simpa using fun h => hxy h.symm
        go_wp2
        go_round
        case rel => exact ⟨k + 1, by omega, by go_num, HST⟩
        case measure => simp [intOf]; omega
    · have hd := Lib.hid (mem_not hs.out (by rw [HL.out]; omega))
      go_wp2
      go_ret
      exact ⟨by rw [hd.out]; rfl, rfl⟩

/-- A place, or -1. -/
def Found (b : Bool) (w : World) (e : Ending) (w' : World) : Prop := ∃ r : Int, e = .returned (.int .i64 r) ∧ decide (0 ≤ r) = b ∧ w = w'
set_option maxHeartbeats 1000000 in
theorem index_ints (a : Option Addr) (n c B : Nat) (xs : List Int) (v : Int) (w : World) (hl : xs.length = n) (hr : Rd w B a (ci xs)) (hm : n ≤ maxLen) :
    Calls Try.prog 37 #[.slice a n c, .int .i64 v] w (Found (decide (v ∈ xs)) w) := by
  unfold maxLen at hm
  have HL := Lib.hid hl; clear hl
  go_enter Try.func37, Try.ntmps37
  go_wp2
  go_loop [8] (fun i => ∃ k : Nat, k ≤ n ∧ i = .int .i64 k ∧ Hid (v ∉ xs.take k)) (fun i => n - (intOf i).toNat)
  case atStart => exact ⟨0, Nat.zero_le _, rfl, Lib.hid (by simp)⟩
  case round =>
    obtain ⟨k, hk, rfl, hs⟩ := hrel
    by_cases hlt : k < n
    · obtain ⟨b, o, rfl, _, hc⟩ := hr.pos (by rw [length_ci, HL.out]; omega)
      have hck := hc k (by rw [length_ci, HL.out]; omega)
      rw [ci_get] at hck
      clear hc
      have l1 : k < xs.length := by rw [HL.out]; exact hlt
      have hst := fun h => mem_take_succ l1 hs.out h
      have hat := fun h => mem_at (v := v) l1 h
      have k0 : (0 : Int) ≤ (k : Int) := by omega
      have k1 : (k : Int) < (n : Int) := by omega
      generalize xs[k] = x at *
      by_cases hxy : x = v
      · subst hxy
        have HAT := Lib.hid (hat rfl)
        clear hst hat
        go_wp2
        go_ret
        exact ⟨k, rfl, by rw [HAT.out]; simp, rfl⟩
      · have HST := Lib.hid (hst hxy)
        clear hst hat
        have hb : (x == v) = false := by simpa using hxy
        have hb' : (v == x) = false := by simpa using fun h => hxy h.symm
        go_wp2
        go_round
        case rel => exact ⟨k + 1, by omega, by go_num, HST⟩
        case measure => simp [intOf]; omega
    · have hd := Lib.hid (mem_not hs.out (by rw [HL.out]; omega))
      go_wp2
      go_ret
      exact ⟨-1, rfl, by rw [hd.out]; rfl, rfl⟩

theorem contains_ints (a : Option Addr) (n c B : Nat) (xs : List Int) (v : Int) (w : World) (hl : xs.length = n) (hr : Rd w B a (ci xs)) (hm : n ≤ maxLen) :
    Calls Try.prog 34 #[.slice a n c, .int .i64 v] w fun e w' => e = .returned (.bool (decide (v ∈ xs))) ∧ w = w' := by
  have hc := index_ints a n c B xs v w hl hr hm
  generalize decide (v ∈ xs) = b at *
  have HC := Lib.hid hc; clear hc hl
  go_enter Try.func34, Try.ntmps34
  go_wp2_with fail
  refine HC.out.mono ?_
  rintro e w1 ⟨r, rfl, hb, rfl⟩
  have HB := Lib.hid hb; clear hb
  go_wp2
  go_ret
  exact ⟨by rw [← HB.out]; rfl, rfl⟩

theorem has_any (a : Option Addr) (n c B : Nat) (xs : List Int) (v : Int) (w : World) (hl : xs.length = n) (hr : Rd w B a (ci xs)) (hm : n ≤ maxLen) :
    Calls Try.prog 30 #[.slice a n c, .int .i64 v] w fun e w' => e = .returned (.bool (decide (v ∈ xs))) ∧ w = w' := by
  have hc := contains_ints a n c B xs v w hl hr hm
  generalize decide (v ∈ xs) = b at *
  have HC := Lib.hid hc; clear hc hl
  go_enter Try.func30, Try.ntmps30
  go_wp2_with fail
  refine HC.out.mono ?_
  rintro e w1 ⟨rfl, rfl⟩
  skip
  go_wp2
  go_ret
  exact ⟨rfl, rfl⟩


set_option maxHeartbeats 1000000 in
theorem is_any (a : Option Addr) (n c B : Nat) (xs : List Int) (w : World) (hl : xs.length = n) (hr : Rd w B a (ci xs)) (hm : n ≤ maxLen) :
    Calls Try.prog 23 #[.slice a n c] w fun e w' => e = .returned (.bool (isS xs)) ∧ Below w.heap.size w w' := by
  unfold maxLen at hm
  have hlong := fun h => isS_long (s := xs) h
  have HL := Lib.hid hl; clear hl
  rw [HL.out] at hlong
  by_cases hbig : 16 < n
  · have HB := Lib.hid (hlong hbig); clear hlong
    go_enter Try.func23, Try.ntmps23
    go_wp2
    go_ret
    exact ⟨by rw [HB.out]; rfl, Below.refl _ _⟩
  · clear hlong
    go_enter Try.func23, Try.ntmps23
    go_wp2
    go_loopw [10] (fun i wr => ∃ k : Nat, (k + 1 ≤ n ∨ k = 0) ∧ i = .int .i64 k ∧ Hid (Up (xs.take (k + 1))) ∧ ∃ d, wr = w.drewN d) (fun i _ => n - (intOf i).toNat)
    case atStart => exact ⟨0, .inr rfl, rfl, Lib.hid (up_take_one (by omega)), 0, rfl⟩
    case round =>
      obtain ⟨k, hk, rfl, hs, d, rfl⟩ := hrel
      by_cases hlt : k + 1 < n
      · clear hk
        obtain ⟨b, o, rfl, _, hc⟩ := hr.pos (by rw [length_ci, HL.out]; omega)
        have hck1 := hc k (by rw [length_ci, HL.out]; omega)
        have hck2 := hc (k + 1) (by rw [length_ci, HL.out]; omega)
        rw [ci_get] at hck1 hck2
        clear hc
        have l1 : k + 1 < xs.length := by rw [HL.out]; exact hlt
        have hst := fun h => up_take_succ l1 hs.out h
        have hno := fun h => isS_fall (up_fall l1 h)
        have k0 : (0 : Int) ≤ (k : Int) := by omega
        have k1 : (k : Int) < (n : Int) := by omega
        have k2 : (k : Int) + 1 < (n : Int) := by omega
        have k3 : (0 : Int) ≤ (k : Int) + 1 := by omega
        have k5 : (k : Int) < (n : Int) - 1 := by omega
        have k6 : ((k : Int) + 1).toNat = k + 1 := by omega
        have k4 : IntKind.i64.wrap ((k : Int) + 1) = (k : Int) + 1 := IntWalk.i64_in _ (by omega)
        generalize xs[k] = x at *
        generalize xs[k + 1] = y at *
        by_cases hxy : x < y
        · have HST := Lib.hid (hst hxy)
          clear hst hno
          have hge : ¬ y ≤ x := by omega
          go_wp2_with fail
          go_quiet (fail)
          clear k4 k6
          go_wp2
          go_roundw
          case rel => exact ⟨k + 1, .inl (by omega), by go_num, HST, _, rfl⟩
          case measure => simp [intOf]; omega
        · have HNO := Lib.hid (hno hxy)
          clear hst hno
          have hge : y ≤ x := by omega
          go_wp2_with fail
          go_quiet (fail)
          clear k4 k6
          go_wp2
          go_ret
          exact ⟨by rw [HNO.out]; rfl, below_drawn (below_drawn (Below.refl _ _) _) _⟩
      · have hup := hs.out
        rw [List.take_of_length_le (by rw [HL.out]; omega)] at hup
        have hd := Lib.hid (isS_ok hup (by rw [HL.out]; omega))
        clear hup
        have k5 : ¬ (k : Int) < (n : Int) - 1 := by omega
        go_wp2
        go_ret
        exact ⟨by rw [hd.out]; rfl, below_drawn (Below.refl _ _) _⟩

theorem isS_len {s : List Int} (h : Up s) : isS s = decide (s.length ≤ 16) := by simp [isS, h]

set_option maxHeartbeats 1000000 in
theorem ref_is_any (a : Option Addr) (n c B : Nat) (xs : List Int) (w : World) (hl : xs.length = n) (hr : Rd w B a (ci xs)) (hm : n ≤ maxLen) :
    Calls Try.prog 21 #[.slice a n c] w fun e w' => e = .returned (.bool (isS xs)) ∧ Below w.heap.size w w' := by
  unfold maxLen at hm
  have HL := Lib.hid hl; clear hl
  go_enter Try.func21, Try.ntmps21
  go_wp2
  go_loopw [3] (fun i wr => ∃ k : Nat, (k + 1 ≤ n ∨ k = 0) ∧ i = .int .i64 ((k : Int) + 1) ∧ Hid (Up (xs.take (k + 1))) ∧ ∃ d, wr = w.drewN d) (fun i _ => n - (intOf i).toNat)
  case atStart => exact ⟨0, .inr rfl, rfl, Lib.hid (up_take_one (by omega)), 0, rfl⟩
  case round =>
    obtain ⟨k, hk, rfl, hs, d, rfl⟩ := hrel
    by_cases hlt : k + 1 < n
    · clear hk
      obtain ⟨b, o, rfl, _, hc⟩ := hr.pos (by rw [length_ci, HL.out]; omega)
      have hck1 := hc k (by rw [length_ci, HL.out]; omega)
      have hck2 := hc (k + 1) (by rw [length_ci, HL.out]; omega)
      rw [ci_get] at hck1 hck2
      clear hc
      have l1 : k + 1 < xs.length := by rw [HL.out]; exact hlt
      have hst := fun h => up_take_succ l1 hs.out h
      have hno := fun h => isS_fall (up_fall l1 h)
      have k0 : (0 : Int) ≤ (k : Int) := by omega
      have k1 : (k : Int) < (n : Int) := by omega
      have k2 : (k : Int) + 1 < (n : Int) := by omega
      have k3 : (0 : Int) ≤ (k : Int) + 1 := by omega
      have k6 : ((k : Int) + 1).toNat = k + 1 := by omega
      have k4 : IntKind.i64.wrap ((k : Int) + 1 - 1) = (k : Int) := by rw [IntWalk.i64_in _ (by omega)]; omega
      generalize xs[k] = x at *
      generalize xs[k + 1] = y at *
      by_cases hxy : x < y
      · have HST := Lib.hid (hst hxy)
        clear hst hno
        have hge : ¬ y ≤ x := by omega
        go_wp2_with fail
        go_quiet (fail)
        clear k4 k6
        go_wp2
        go_roundw
        case rel => exact ⟨k + 1, .inl (by omega), by go_num, HST, _, rfl⟩
        case measure => simp [intOf]; omega
      · have HNO := Lib.hid (hno hxy)
        clear hst hno
        have hge : y ≤ x := by omega
        go_wp2_with fail
        go_quiet (fail)
        clear k4 k6
        go_wp2
        go_ret
        exact ⟨by rw [HNO.out]; rfl, below_drawn (below_drawn (Below.refl _ _) _) _⟩
    · have hup := hs.out
      rw [List.take_of_length_le (by rw [HL.out]; omega)] at hup
      have hd := isS_len hup
      rw [HL.out] at hd
      have HD := Lib.hid hd; clear hd
      clear hup
      by_cases h16 : n ≤ 16
      all_goals
        go_wp2
        go_ret
        exact ⟨by rw [HD.out]; simp [h16]; omega, below_drawn (Below.refl _ _) _⟩
end Go.Proofs.Ytdoieefkpafgcaa
