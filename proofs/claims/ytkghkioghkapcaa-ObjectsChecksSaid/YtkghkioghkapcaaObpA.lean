/-
  Layer 7, the program, by contract: Name.
-/
import Derived.Test.YtkghkioghkapcaaObjA
namespace Go.Proofs.Ytkghkioghkapcaa
open Go.RowKit Go.Sort

def digB (c : UInt8) : Bool := decide (48 ≤ c.toNat ∧ c.toNat ≤ 57)
theorem prog_letter_any (c : UInt8) (w : World) : Calls Try.prog 108 #[.int .u8 (c.toNat : Int)] w fun e w' => e = .returned (.bool (lettB c)) ∧ w = w' := by
  by_cases h1 : (97 : Int) ≤ (c.toNat : Int)
  · by_cases h2 : (c.toNat : Int) ≤ 122
    · have HF := Lib.hid (lett_yes h1 h2)
      go_enter Try.func108, Try.ntmps108
      go_wp2
      all_goals (first | (exfalso; omega) | (go_ret; exact ⟨by rw [HF.out]; rfl, rfl⟩))
    · have HF := Lib.hid (lett_no (c := c) (fun h => h2 h.2))
      go_enter Try.func108, Try.ntmps108
      go_wp2
      all_goals (first | (exfalso; omega) | (go_ret; exact ⟨by rw [HF.out]; rfl, rfl⟩))
  · have HF := Lib.hid (lett_no (c := c) (fun h => h1 h.1))
    go_enter Try.func108, Try.ntmps108
    go_wp2
    all_goals (first | (exfalso; omega) | (go_ret; exact ⟨by rw [HF.out]; rfl, rfl⟩))
theorem prog_digit_any (c : UInt8) (w : World) : Calls Try.prog 109 #[.int .u8 (c.toNat : Int)] w fun e w' => e = .returned (.bool (digB c)) ∧ w = w' := by
  by_cases h1 : (48 : Int) ≤ (c.toNat : Int)
  · by_cases h2 : (c.toNat : Int) ≤ 57
    · have HF := Lib.hid (show digB c = true by unfold digB; rw [decide_eq_true_eq]; omega)
      go_enter Try.func109, Try.ntmps109
      go_wp2
      all_goals (first | (exfalso; omega) | (go_ret; exact ⟨by rw [HF.out]; rfl, rfl⟩))
    · have HF := Lib.hid (show digB c = false by unfold digB; rw [decide_eq_false_iff_not]; omega)
      go_enter Try.func109, Try.ntmps109
      go_wp2
      all_goals (first | (exfalso; omega) | (go_ret; exact ⟨by rw [HF.out]; rfl, rfl⟩))
  · have HF := Lib.hid (show digB c = false by unfold digB; rw [decide_eq_false_iff_not]; omega)
    go_enter Try.func109, Try.ntmps109
    go_wp2
    all_goals (first | (exfalso; omega) | (go_ret; exact ⟨by rw [HF.out]; rfl, rfl⟩))

theorem nameC_split (c : UInt8) : nameC c = (lettB c || digB c || decide (c.toNat = 95)) := rfl
set_option maxHeartbeats 4000000 in
theorem prog_is_any (s : ByteArray) (w : World) :
    Calls Try.prog 47 #[.string s] w fun e w' => e = .returned (.bool (nameB s)) ∧ w = w' := by
  by_cases h12 : 1 ≤ s.size ∧ s.size ≤ 16
  · obtain ⟨h1, h2⟩ := h12
    have h0 : 0 < s.size := h1
    have i1 : (1 : Int) ≤ (s.size : Int) := by omega
    have i2 : (s.size : Int) ≤ 16 := by omega
    have i0 : ((s.size : Int) == 0) = false := by rw [beq_eq_false_iff_ne]; omega
    have hyes := fun h => nameB_all h1 h2 h
    have hfst := fun h => nameB_first h0 h
    cases hc : lettB s[0] with
    | true =>
      have HY := Lib.hid (hyes hc)
      clear hyes hfst
      go_enter Try.func47, Try.ntmps47
      go_wp2_with (go_at_call 108; refine (prog_letter_any _ _).mono ?_; rintro e w' ⟨rfl, rfl⟩)
      go_loop [20, 3] (fun i x => ∃ k : Nat, k ≤ s.size ∧ i = .int .i64 k ∧ Hid (∀ j (h : j < s.size), j < k → nameC s[j] = true)) (fun i _ => s.size - (intOf i).toNat)
      case atStart => exact ⟨0, Nat.zero_le _, rfl, Lib.hid (fun _ _ h => by omega)⟩
      case round =>
        obtain ⟨k, hk, rfl, hn⟩ := hrel
        by_cases hlt : k < s.size
        · have hno := fun h => nameB_at hlt h
          have hst : nameC s[k] = true → ∀ j (h : j < s.size), j < k + 1 → nameC s[j] = true := fun h j hj hjk => by
            by_cases e : j = k
            · subst e; exact h
            · exact hn.out j hj (by omega)
          have k0 : (0 : Int) ≤ (k : Int) := by omega
          have k1 : (k : Int) < (s.size : Int) := by omega
          cases hx1 : lettB s[k] with
          | true =>
            have HS := Lib.hid (hst (by rw [nameC_split, hx1]; rfl))
            clear hst hno hn
            go_wp2_with (go_at_call 108; refine (prog_letter_any _ _).mono ?_; rintro e w' ⟨rfl, rfl⟩)
            go_round
            case rel => exact ⟨k + 1, by omega, by go_num, HS⟩
            case measure => simp [intOf]; omega
          | false =>
            cases hx2 : digB s[k] with
            | true =>
              have HS := Lib.hid (hst (by rw [nameC_split, hx1, hx2]; rfl))
              clear hst hno hn
              go_wp2_with (first | (go_at_call 108; refine (prog_letter_any _ _).mono ?_; rintro e w' ⟨rfl, rfl⟩) | (go_at_call 109; refine (prog_digit_any _ _).mono ?_; rintro e w' ⟨rfl, rfl⟩))
              go_round
              case rel => exact ⟨k + 1, by omega, by go_num, HS⟩
              case measure => simp [intOf]; omega
            | false =>
              by_cases hx3 : (s[k].toNat : Int) = 95
              · have HS := Lib.hid (hst (nameC_yes (.inr (.inr hx3))))
                have hx4 : ((s[k].toNat : Int) == 95) = true := by rw [beq_iff_eq]; exact hx3
                have hx7 : ((s[k].toNat : Int) != 95) = false := by rw [bne_eq_false_iff_eq]; exact hx3
                clear hst hno hn hx3
                go_wp2_with (first | (go_at_call 108; refine (prog_letter_any _ _).mono ?_; rintro e w' ⟨rfl, rfl⟩) | (go_at_call 109; refine (prog_digit_any _ _).mono ?_; rintro e w' ⟨rfl, rfl⟩))
                go_round
                case rel => exact ⟨k + 1, by omega, by go_num, HS⟩
                case measure => simp [intOf]; omega
              · have HF := Lib.hid (hno (by rw [nameC_split, hx1, hx2, show decide (s[k].toNat = 95) = false from decide_eq_false (by omega)]; rfl))
                have hx4 : ((s[k].toNat : Int) == 95) = false := by simpa using hx3
                have hx7 : ((s[k].toNat : Int) != 95) = true := by simpa using hx3
                clear hst hno hn
                go_wp2_with (first | (go_at_call 108; refine (prog_letter_any _ _).mono ?_; rintro e w' ⟨rfl, rfl⟩) | (go_at_call 109; refine (prog_digit_any _ _).mono ?_; rintro e w' ⟨rfl, rfl⟩))
                all_goals (first | (exfalso; omega) | (go_ret; exact ⟨by rw [HF.out]; rfl, rfl⟩))
        · have hk' : k = s.size := by omega
          have hf := HY.out fun j hj => hn.out j hj (by omega)
          have HF := Lib.hid hf
          clear hf
          go_wp2_with fail
          go_ret
          exact ⟨by rw [HF.out]; rfl, rfl⟩
    | false =>
      have HF := Lib.hid (hfst hc)
      clear hyes hfst
      go_enter Try.func47, Try.ntmps47
      go_wp2_with (go_at_call 108; refine (prog_letter_any _ _).mono ?_; rintro e w' ⟨rfl, rfl⟩)
      all_goals (first | (exfalso; omega) | (go_ret; exact ⟨by rw [HF.out]; rfl, rfl⟩))
  · have HF := Lib.hid (nameB_no h12)
    by_cases h0 : s.size = 0
    · have i0 : ((s.size : Int) == 0) = true := by rw [beq_iff_eq]; omega
      have i1 : (s.size : Int) = 0 := by omega
      clear h0
      go_enter Try.func47, Try.ntmps47
      go_wp2_with fail
      all_goals (first | (exfalso; omega) | (go_ret; exact ⟨by rw [HF.out]; rfl, rfl⟩))
    · have i0 : ((s.size : Int) == 0) = false := by rw [beq_eq_false_iff_ne]; omega
      have i1 : (16 : Int) < (s.size : Int) := by omega
      go_enter Try.func47, Try.ntmps47
      go_wp2_with fail
      all_goals (first | (exfalso; omega) | (go_ret; exact ⟨by rw [HF.out]; rfl, rfl⟩))
theorem prog_name_any (s : ByteArray) (w : World) :
    Calls Try.prog 12 #[.string s] w fun e w' => e = .returned (.bool (nameB s)) ∧ w = w' := by
  go_enter Try.func12, Try.ntmps12
  go_wp2_with (go_at_call 47; refine (prog_is_any _ _).mono ?_; rintro e w' ⟨rfl, rfl⟩)
  go_ret
  exact ⟨rfl, rfl⟩
end Go.Proofs.Ytkghkioghkapcaa
