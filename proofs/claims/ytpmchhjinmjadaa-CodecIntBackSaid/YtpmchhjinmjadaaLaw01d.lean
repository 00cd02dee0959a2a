/-
  Layer 1's statements, walked: what is laid is read as itself; no reader.
-/
import Derived.Test.YtpmchhjinmjadaaLaw01b
namespace Go.Proofs.Ytpmchhjinmjadaa
open Go.RowKit

set_option maxHeartbeats 1000000 in
theorem walk_nil (w : World) :
    Calls Try.prog 10 #[] w fun e w' => e = .returned (.bool true) ∧ Below w.heap.size w w' := by
  go_enter Try.func10, Try.ntmps10
  go_wp2_with fail
  refine (number_nil _).mono ?_
  rintro e w' ⟨rfl, rfl⟩
  go_wp2_with fail
  refine (int_nil _).mono ?_
  rintro e w' ⟨rfl, rfl⟩
  go_wp2_with fail
  refine (text_nil _).mono ?_
  rintro e w' ⟨rfl, rfl⟩
  go_wp2_with fail
  refine (left_nil _).mono ?_
  rintro e w' ⟨rfl, rfl⟩
  go_wp2_with fail
  refine (reads_any _).mono ?_
  rintro e w' ⟨rfl, hb⟩
  go_wp2
  go_ret
  exact ⟨rfl, hb⟩

/-- The number that a number's bytes are. -/
theorem le_lowB (v : Nat) : ∀ k, le (lowB (v : Int) k) = v % 2 ^ (8 * k) := by
  intro k
  induction k with
  | zero => simp [lowB, le]; omega
  | succ k ih =>
    have e1 : lowB (v : Int) (k + 1) = lowB (v : Int) k ++ [UInt8.ofNat ((v : Int) / 2 ^ (8 * k) % 256).toNat] := by simp [lowB, List.range_succ]
    have e3 : ((v : Int) / 2 ^ (8 * k) % 256).toNat = v / 2 ^ (8 * k) % 256 := by
      rw [show ((v : Int) / 2 ^ (8 * k) % 256) = ((v / 2 ^ (8 * k) % 256 : Nat) : Int) from by simp]
      exact Int.toNat_natCast _
    have e2 : (UInt8.ofNat ((v : Int) / 2 ^ (8 * k) % 256).toNat).toNat = v / 2 ^ (8 * k) % 256 := by
      rw [e3]; simp only [UInt8.toNat_ofNat']; omega
    rw [e1, le_append, length_lowB, pow256, ih]
    simp only [le, e2, Nat.mul_zero, Nat.add_zero]
    rw [show 8 * (k + 1) = 8 * k + 8 from by omega, Nat.pow_add, Nat.mod_mul]

theorem num_back (v : Nat) (hv : v ≤ 1000000000) (behind : List UInt8) : numV (lowB v 4 ++ behind) = v ∧ numE (lowB v 4 ++ behind) = 0 ∧ (lowB v 4 ++ behind).drop (numK (lowB v 4 ++ behind)) = behind := by
  have e1 : (lowB v 4 ++ behind).take 4 = lowB v 4 := List.take_left' (length_lowB _ _)
  have e2 : le (lowB v 4) = v := by rw [le_lowB]; omega
  have h := num_ok (bs := lowB v 4 ++ behind) (by simp) (by rw [e1, e2]; omega)
  rw [e1, e2] at h
  obtain ⟨h1, h2, h3⟩ := h
  exact ⟨h1, h2, by rw [h3]; exact List.drop_left' (length_lowB _ _)⟩

theorem int_back (v : Int) (h0 : -9223372036854775808 ≤ v) (h1 : v ≤ 9223372036854775807) (behind : List UInt8) :
    intV (lowB (IntKind.u64.wrap v) 8 ++ behind) = v ∧ intE (lowB (IntKind.u64.wrap v) 8 ++ behind) = 0 ∧ (lowB (IntKind.u64.wrap v) 8 ++ behind).drop (intK (lowB (IntKind.u64.wrap v) 8 ++ behind)) = behind := by
  obtain ⟨u, hu⟩ : ∃ u : Nat, IntKind.u64.wrap v = (u : Int) := ⟨(IntKind.u64.wrap v).toNat, by rw [IntKind.wrap_u64]; omega⟩
  have hu2 : u < 18446744073709551616 := by rw [IntKind.wrap_u64] at hu; omega
  have hw : wrap64 (u : Int) = v := by rw [← hu, IntKind.wrap_u64]; unfold wrap64; omega
  rw [hu]
  have e1 : (lowB u 8 ++ behind).take 8 = lowB u 8 := List.take_left' (length_lowB _ _)
  have e2 : le (lowB u 8) = u := by rw [le_lowB]; exact Nat.mod_eq_of_lt hu2
  have h := int_ok (bs := lowB u 8 ++ behind) (by simp)
  rw [e1, e2, hw] at h
  obtain ⟨h1, h2, h3⟩ := h
  exact ⟨h1, h2, by rw [h3]; exact List.drop_left' (length_lowB _ _)⟩

theorem text_back (s behind : List UInt8) (hs : s.length ≤ 65536) :
    txtV (lowB s.length 4 ++ s ++ behind) = s ∧ txtE (lowB s.length 4 ++ s ++ behind) = 0 ∧ (lowB s.length 4 ++ s ++ behind).drop (txtK (lowB s.length 4 ++ s ++ behind)) = behind := by
  rw [List.append_assoc]
  have e1 : (lowB s.length 4 ++ (s ++ behind)).take 4 = lowB s.length 4 := List.take_left' (length_lowB _ _)
  have e3 : (lowB s.length 4 ++ (s ++ behind)).drop 4 = s ++ behind := List.drop_left' (length_lowB _ _)
  have e2 : le (lowB s.length 4) = s.length := by rw [le_lowB]; omega
  have h := txt_ok (bs := lowB s.length 4 ++ (s ++ behind)) (by simp) (by rw [e1, e2]; omega) (by rw [e1, e2]; simp)
  rw [e1, e2, e3] at h
  obtain ⟨h1, h2, h3⟩ := h
  refine ⟨by rw [h1]; exact List.take_left' rfl, h2, ?_⟩
  rw [h3, ← List.drop_drop, e3]
  exact List.drop_left' rfl

/-- A text without its last byte is refused. -/
theorem text_cut (s : List UInt8) (hs : s.length ≤ 65536) (bs : List UInt8) (hb : bs = (lowB s.length 4 ++ s).take (3 + s.length)) : txtE bs = 10 := by
  subst hb
  by_cases h0 : s.length = 0
  · exact (txt_short (by simp; omega)).2.1
  · have e1 : ((lowB s.length 4 ++ s).take (3 + s.length)).take 4 = lowB s.length 4 := by
      rw [List.take_take, Nat.min_eq_left (by omega)]
      exact List.take_left' (length_lowB _ _)
    have e2 : le (lowB s.length 4) = s.length := by rw [le_lowB]; omega
    have hl : ((lowB s.length 4 ++ s).take (3 + s.length)).length = 3 + s.length := by rw [List.length_take, List.length_append, length_lowB]; omega
    exact (txt_end (by rw [hl]; omega) (by rw [e1, e2]; omega) (by rw [e1, e2, hl]; omega)).2.1

theorem IsR.below {w w' : World} {r B : Nat} {bs : List UInt8} (h : IsR w r B bs) (hb : Below w.heap.size w w') : IsR w' r B bs :=
  h.keep (hb.block r h.lt) (fun k hk => hb.block k (by have := h.1; have := h.lt; omega))

/-- A reader over a row of the call's own: New, at a value that owns bytes. -/
theorem new_own {w0 w : World} {o : Value} {n : Nat} {bs : List UInt8} (hown : w.ownsRow w0.heap.size 5 1 o n (cb bs)) (hb : Below w0.heap.size w0 w) (hle : n ≤ 4194304) :
    ∃ a cap, o = .slice a n cap ∧ Calls Try.prog 22 #[.slice a n cap] w fun e w' =>
      e = .returned (.pointer (some ⟨w.heap.size + 1, 0, none⟩)) ∧ IsR w' (w.heap.size + 1) (w.heap.size + 1) bs ∧ Below w0.heap.size w0 w' ∧ w0.heap.size ≤ w.heap.size + 1 := by
  obtain ⟨a, cap, rfl, hr, hl⟩ := Rd.own hown
  refine ⟨a, cap, rfl, (new_any a n cap w.heap.size bs w (by simpa using hl) hr (Nat.le_refl _) hle).mono ?_⟩
  rintro e w' ⟨rfl, hR, hb', _⟩
  exact ⟨rfl, hR, hb.trans (hb'.mono hb.size), by have := hb.size; omega⟩

set_option maxHeartbeats 1000000 in
theorem walk_number_back (v : Int) (a : Option Addr) (n cap : Nat) (bs : List UInt8) (w : World) (hl : bs.length = n) (hr : Rd w w.heap.size a (cb bs)) :
    Calls Try.prog 7 #[.int .i64 v, .slice a n cap] w fun e w' => e = .returned (.bool true) ∧ Below w.heap.size w w' := by
  have HL := Lib.hid hl; clear hl
  by_cases hlong : 262144 < n
  · go_enter Try.func7, Try.ntmps7
    go_wp2_with fail
    go_ret
    exact ⟨rfl, Below.refl _ _⟩
  · by_cases hno : v < 0 ∨ 1000000000 < v
    · by_cases hneg : v < 0
      · go_enter Try.func7, Try.ntmps7
        go_wp2_with fail
        refine (put_number_no _ _ _ v _ hno).mono ?_
        rintro e w' ⟨rfl, rfl⟩
        go_wp2_with fail
        refine (puts_any _).mono ?_
        rintro e w1 ⟨rfl, hb1⟩
        go_wp2_with fail
        refine (reads_any _).mono ?_
        rintro e w2 ⟨rfl, hb2⟩
        go_wp2
        go_ret
        exact ⟨rfl, hb1.trans (hb2.mono hb1.size)⟩
      · have hbig : 1000000000 < v := by omega
        go_enter Try.func7, Try.ntmps7
        go_wp2_with fail
        refine (put_number_no _ _ _ v _ hno).mono ?_
        rintro e w' ⟨rfl, rfl⟩
        go_wp2_with fail
        refine (puts_any _).mono ?_
        rintro e w1 ⟨rfl, hb1⟩
        go_wp2_with fail
        refine (reads_any _).mono ?_
        rintro e w2 ⟨rfl, hb2⟩
        go_wp2
        go_ret
        exact ⟨rfl, hb1.trans (hb2.mono hb1.size)⟩
    · have h0 : 0 ≤ v := by omega
      have h1 : v ≤ 1000000000 := by omega
      obtain ⟨i0, hi, hz0, hz1, hz2⟩ := info_parts info_byte
      go_enter Try.func7, Try.ntmps7
      go_wp2_with fail
      refine (put_number_ok none 0 0 v [] 0 w rfl Rd.nil (Nat.zero_le _) (by simp) (by omega) h0 h1).mono ?_
      rintro e w' ⟨rfl, rfl⟩
      rw [List.nil_append, low_lowB]
      have hown := own_new w w.heap.size 5 (cb (lowB v 4)) 4 (by simp) (Nat.le_refl _) (by unfold maxLen; omega)
      have hb0 := (Below.refl w.heap.size w).alloc (Nat.le_refl _) (.cells (cb (lowB v 4)).toArray 5)
      have hr0 := hr.alloc (Nat.le_refl _) (.cells (cb (lowB v 4)).toArray 5)
      generalize World.alloc _ _ = w1 at *
      go_wp2_with (at_builtin; refine wpList_append_rd rfl _ _ 22 rfl w.heap.size 5 i0 (.int .u8 0) 1 Try.underlying22 hi hz0 hz1 hz2 rfl _ _ _ rfl hown w.heap.size a n cap (cb bs) rfl hr0 ?c1 (cb_one _) ?c2 ?c3 hb0.size ?_)
      case c1 => rw [length_cb, HL.out]
      case c2 => unfold maxLen; omega
      case c3 => omega
      intro o w2 hown2 hg2
      have hb2 := hb0.grown hg2 hb0.size (fun j hj => by simp [Value.ownBlock] at hj; omega)
      rw [← cb_append] at hown2
      obtain ⟨u, hu⟩ : ∃ u : Nat, v = (u : Int) := ⟨v.toNat, by omega⟩
      subst hu
      obtain ⟨k1, k2, k3⟩ := num_back u (by omega) bs
      generalize lowB (u : Int) 4 ++ bs = X at *
      clear hown hr0 hr
      obtain ⟨a2, cap2, rfl, hnew⟩ := new_own hown2 hb2 (by omega)
      have HNEW := Lib.hid hnew; clear hnew
      have K1 := Lib.hid k1; clear k1
      have K2 := Lib.hid k2; clear k2
      have K3 := Lib.hid k3; clear k3
      go_wp2_with fail
      refine HNEW.out.mono ?_
      rintro e w3 ⟨rfl, hR, hb3, hsz⟩
      generalize w2.heap.size + 1 = r at *
      go_wp2_with fail
      refine (number_any r r _ _ hR).mono ?_
      rintro e w4 ⟨rfl, hR4, hg4⟩
      rw [K1.out, K2.out]
      rw [K3.out] at hR4
      have hb4 := below_row hb3 hg4 hsz (Nat.le_refl _)
      go_wp2_with fail
      refine (puts_any _).mono ?_
      rintro e w5 ⟨rfl, hb5⟩
      have hR5 := hR4.below hb5
      have hb05 := hb4.trans (hb5.mono hb4.size)
      go_wp2_with fail
      refine (reads_any _).mono ?_
      rintro e w6 ⟨rfl, hb6⟩
      have hR6 := hR5.below hb6
      have hb06 := hb05.trans (hb6.mono hb05.size)
      go_wp2_with fail
      refine (left_any r r bs _ hR6).mono ?_
      rintro e w7 ⟨rfl, rfl⟩
      rw [HL.out]
      go_wp2
      go_ret
      exact ⟨rfl, hb06⟩

set_option maxHeartbeats 1000000 in
theorem walk_int_back (v : Int) (a : Option Addr) (n cap : Nat) (bs : List UInt8) (w : World) (hl : bs.length = n) (hr : Rd w w.heap.size a (cb bs)) (hv0 : -9223372036854775808 ≤ v) (hv1 : v ≤ 9223372036854775807) :
    Calls Try.prog 8 #[.int .i64 v, .slice a n cap] w fun e w' => e = .returned (.bool true) ∧ Below w.heap.size w w' := by
  have HL := Lib.hid hl; clear hl
  by_cases hlong : 262144 < n
  · go_enter Try.func8, Try.ntmps8
    go_wp2_with fail
    go_ret
    exact ⟨rfl, Below.refl _ _⟩
  · obtain ⟨i0, hi, hz0, hz1, hz2⟩ := info_parts info_byte
    obtain ⟨k1, k2, k3⟩ := int_back v hv0 hv1 bs
    have K1 := Lib.hid k1; clear k1
    have K2 := Lib.hid k2; clear k2
    have K3 := Lib.hid k3; clear k3
    go_enter Try.func8, Try.ntmps8
    go_wp2_with fail
    refine (put_int_any none 0 0 v [] 0 w rfl Rd.nil (Nat.zero_le _) (by simp) (by omega)).mono ?_
    rintro e w' ⟨rfl, rfl⟩
    rw [List.nil_append, low_lowB]
    have hown := own_new w w.heap.size 5 (cb (lowB (IntKind.u64.wrap v) 8)) 8 (by simp) (Nat.le_refl _) (by unfold maxLen; omega)
    have hb0 := (Below.refl w.heap.size w).alloc (Nat.le_refl _) (.cells (cb (lowB (IntKind.u64.wrap v) 8)).toArray 5)
    have hr0 := hr.alloc (Nat.le_refl _) (.cells (cb (lowB (IntKind.u64.wrap v) 8)).toArray 5)
    generalize World.alloc _ _ = w1 at *
    generalize lowB (IntKind.u64.wrap v) 8 = L at *
    go_wp2_with (at_builtin; refine wpList_append_rd rfl _ _ 22 rfl w.heap.size 5 i0 (.int .u8 0) 1 Try.underlying22 hi hz0 hz1 hz2 rfl _ _ _ rfl hown w.heap.size a n cap (cb bs) rfl hr0 ?c1 (cb_one _) ?c2 ?c3 hb0.size ?_)
    case c1 => rw [length_cb, HL.out]
    case c2 => unfold maxLen; omega
    case c3 => omega
    intro o w2 hown2 hg2
    have hb2 := hb0.grown hg2 hb0.size (fun j hj => by simp [Value.ownBlock] at hj; omega)
    rw [← cb_append] at hown2
    generalize L ++ bs = X at *
    clear hown hr0 hr
    obtain ⟨a2, cap2, rfl, hnew⟩ := new_own hown2 hb2 (by omega)
    have HNEW := Lib.hid hnew; clear hnew
    go_wp2_with fail
    refine HNEW.out.mono ?_
    rintro e w3 ⟨rfl, hR, hb3, hsz⟩
    generalize w2.heap.size + 1 = r at *
    go_wp2_with fail
    refine (int_any r r _ _ hR).mono ?_
    rintro e w4 ⟨rfl, hR4, hg4⟩
    rw [K1.out, K2.out]
    rw [K3.out] at hR4
    have hb4 := below_row hb3 hg4 hsz (Nat.le_refl _)
    go_wp2_with fail
    refine (lays_any _).mono ?_
    rintro e w5 ⟨rfl, hb5⟩
    have hR5 := hR4.below hb5
    have hb05 := hb4.trans (hb5.mono hb4.size)
    go_wp2_with fail
    refine (left_any r r bs _ hR5).mono ?_
    rintro e w7 ⟨rfl, rfl⟩
    rw [HL.out]
    go_wp2
    go_ret
    exact ⟨rfl, hb05⟩

set_option maxHeartbeats 2000000 in
theorem walk_text_back (s : ByteArray) (a : Option Addr) (n cap : Nat) (bs : List UInt8) (w : World) (hl : bs.length = n) (hr : Rd w w.heap.size a (cb bs)) (hs : s.size ≤ maxLen) :
    Calls Try.prog 9 #[.string s, .slice a n cap] w fun e w' => e = .returned (.bool true) ∧ Below w.heap.size w w' := by
  have HL := Lib.hid hl; clear hl
  have Hs := Lib.hid hs
  unfold maxLen at hs
  by_cases hlong : 262144 < n
  · go_enter Try.func9, Try.ntmps9
    go_wp2_with fail
    go_ret
    exact ⟨rfl, Below.refl _ _⟩
  · by_cases hslong : 262144 < s.size
    · go_enter Try.func9, Try.ntmps9
      go_wp2_with fail
      go_ret
      exact ⟨rfl, Below.refl _ _⟩
    · by_cases hno : 65536 < s.size
      · go_enter Try.func9, Try.ntmps9
        go_wp2_with fail
        refine (put_text_no _ _ _ s _ Hs.out hno).mono ?_
        rintro e w' ⟨rfl, rfl⟩
        go_wp2_with fail
        refine (writes_any _).mono ?_
        rintro e w1 ⟨rfl, hb1⟩
        go_wp2_with fail
        refine (reads_any _).mono ?_
        rintro e w2 ⟨rfl, hb2⟩
        go_wp2
        go_ret
        refine ⟨?_, hb1.trans (hb2.mono hb1.size)⟩
        show Ending.returned (Value.bool (decide (65536 < (s.size : Int)))) = _
        rw [decide_eq_true (by omega)]
      · obtain ⟨i0, hi, hz0, hz1, hz2⟩ := info_parts info_byte
        have hsz : s.data.toList.length = s.size := by rw [Array.length_toList]; rfl
        obtain ⟨k1, k2, k3⟩ := text_back s.data.toList bs (by omega)
        have k4 := text_cut s.data.toList (by omega) _ rfl
        rw [hsz] at k1 k2 k3 k4
        have HSZ := Lib.hid hsz; clear hsz
        have K1 := Lib.hid k1; clear k1
        have K2 := Lib.hid k2; clear k2
        have K3 := Lib.hid k3; clear k3
        have K4 := Lib.hid k4; clear k4
        go_enter Try.func9, Try.ntmps9
        go_wp2_with fail
        refine (put_text_ok none 0 0 s [] 0 w rfl Rd.nil (Nat.zero_le _) (by simp) (by omega) (by omega)).mono ?_
        rintro e w' ⟨rfl, rfl⟩
        rw [List.nil_append, low_lowB, ← cb_append, show 0 + 4 + s.size = 4 + s.size from by omega]
        have hX : (lowB s.size 4 ++ s.data.toList).length = 4 + s.size := by rw [List.length_append, length_lowB, HSZ.out]
        have hown := own_new w w.heap.size 5 (cb (lowB s.size 4 ++ s.data.toList)) (4 + s.size) (by rw [length_cb, hX]) (Nat.le_refl _) (by unfold maxLen; omega)
        have hrd := (Rd.new w (lowB s.size 4 ++ s.data.toList) 5).take (3 + s.size)
        rw [cb_take] at hrd
        have hXl : ((lowB s.size 4 ++ s.data.toList).take (3 + s.size)).length = 3 + s.size := by rw [List.length_take, hX]; omega
        have HX := Lib.hid hX; clear hX
        have HXL := Lib.hid hXl; clear hXl
        have hb0 := (Below.refl w.heap.size w).alloc (Nat.le_refl _) (.cells (cb (lowB s.size 4 ++ s.data.toList)).toArray 5)
        have hr0 := hr.alloc (Nat.le_refl _) (.cells (cb (lowB s.size 4 ++ s.data.toList)).toArray 5)
        have hz1' : (w.alloc (.cells (cb (lowB s.size 4 ++ s.data.toList)).toArray 5)).heap.size = w.heap.size + 1 := by simp
        have HZ := Lib.hid hz1'; clear hz1'
        generalize lowB s.size 4 ++ s.data.toList = X at *
        generalize World.alloc _ _ = w1 at *
        go_wp2_with fail
        refine (new_exact (some ⟨w.heap.size, 0, none⟩) (3 + s.size) (4 + s.size) (w.heap.size + 1) (X.take (3 + s.size)) w1 HXL.out hrd (by rw [HZ.out]; exact Nat.le_refl _) (by omega)).mono ?_
        rintro e w2 ⟨rfl, hd2, hr2, hb2, hz2'⟩
        rw [HZ.out] at hd2 hr2 hb2 hz2'
        rw [HZ.out]
        have hown2 := hown.kept (w' := w2) (row := none) ⟨hb2.os, hb2.tape, hb2.output, hb2.size, fun k hk _ => hb2.block k (by rw [HZ.out] at hk; exact hk)⟩ (.inr (by simp [Value.ownBlock]))
        have hbb2 := hb0.trans (hb2.mono (by omega))
        have hra2 := hr0.below hb2 (by omega)
        clear hown hrd hr0
        have HZ2 := Lib.hid hz2'; clear hz2'
        go_wp2_with (at_builtin; refine wpList_append_rd rfl _ _ 22 rfl w.heap.size 5 i0 (.int .u8 0) 1 Try.underlying22 hi hz0 hz1 hz2 rfl _ _ _ rfl hown2 w.heap.size a n cap (cb bs) rfl hra2 ?c1 (cb_one _) ?c2 ?c3 hbb2.size ?_)
        case c1 => rw [length_cb, HL.out]
        case c2 => unfold maxLen; omega
        case c3 => omega
        intro o w3 hown3 hg3
        have hg3' : w2.grownBy w3 (some w.heap.size) := hg3
        have hd3 := (hg3'.block (w.heap.size + 1) (by rw [HZ2.out]; omega) (by simp)).trans hd2
        have hr3 := (hg3'.block (w.heap.size + 1 + 1) (by rw [HZ2.out]; omega) (by simp; omega)).trans hr2
        have hRs := IsR.of_blocks HXL.out hd3 hr3 (by omega) (by omega)
        have hbb3 := below_row hbb2 hg3' (Nat.le_refl _) (Nat.le_refl _)
        have hsz3 : w.heap.size + 3 ≤ w3.heap.size := by have := hg3'.size; rw [HZ2.out] at this; omega
        rw [← cb_append] at hown3
        clear hown2 hra2 hr hd2 hr2 hd3 hr3 hg3 hg3'
        obtain ⟨a3, cap3, rfl, hrd3, hl3⟩ := Rd.own hown3
        rw [length_cb] at hl3
        have HL3 := Lib.hid hl3; clear hl3
        clear hown3
        go_wp2_with fail
        refine (new_any a3 (4 + s.size + n) cap3 w3.heap.size (X ++ bs) w3 HL3.out hrd3 (Nat.le_refl _) (by omega)).mono ?_
        rintro e w4 ⟨rfl, hR4, hb4, _⟩
        have hRs4 := hRs.below hb4
        have hbb4 := hbb3.trans (hb4.mono hbb3.size)
        clear hb4 hRs hbb3 hrd3
        have hrs : w.heap.size ≤ w.heap.size + 1 + 1 := by omega
        have hne : w.heap.size + 1 + 1 < w3.heap.size + 1 := by omega
        generalize w3.heap.size + 1 = r at *
        generalize w.heap.size + 1 + 1 = rs at *
        go_wp2_with fail
        refine (text_any r r _ _ hR4).mono ?_
        rintro e w5 ⟨rfl, hR5, hg5⟩
        have hRs5 := hRs4.grown hg5 (fun k hk => by simp only [Option.some.injEq] at hk; omega)
        have hbb5 := below_row hbb4 hg5 (by omega) (Nat.le_refl _)
        rw [K1.out, K2.out]
        rw [K3.out] at hR5
        clear hg5 hbb4 hR4 hRs4
        go_wp2_with fail
        refine (text_any rs rs _ _ hRs5).mono ?_
        rintro e w6 ⟨rfl, _, hg6⟩
        obtain ⟨a5, cap5, hc5, _, _, hcap5, hmax5⟩ := hR5.open_
        rw [HL.out] at hc5 hcap5
        have hc6 := hg6.cell hc5 (by simp; omega)
        have hlt6 := World.block_lt_of_cell? _ _ hc6
        have hbb6 := below_row hbb5 hg6 (by omega) (Nat.le_refl _)
        rw [K4.out]
        generalize txtV (X.take (3 + s.size)) = V6
        clear hc5 hg6 hbb5 hR5 hRs5
        go_wp2_with fail
        refine (writes_any _).mono ?_
        rintro e w7 ⟨rfl, hb7⟩
        have hc7 := (hb7.cell (p := ⟨r, 0, none⟩) hlt6).trans hc6
        have hlt7 := World.block_lt_of_cell? _ _ hc7
        have hbb7 := hbb6.trans (hb7.mono hbb6.size)
        clear hb7 hbb6 hc6
        go_wp2_with fail
        refine (reads_any _).mono ?_
        rintro e w8 ⟨rfl, hb8⟩
        have hc8 := (hb8.cell (p := ⟨r, 0, none⟩) hlt7).trans hc7
        have hbb8 := hbb7.trans (hb8.mono hbb7.size)
        clear hb8 hbb7 hc7
        go_wp2_with fail
        refine (left_cell r n cap5 a5 _ hc8).mono ?_
        rintro e w9 ⟨rfl, rfl⟩
        go_wp2
        go_ret
        exact ⟨rfl, hbb8⟩
end Go.Proofs.Ytpmchhjinmjadaa
