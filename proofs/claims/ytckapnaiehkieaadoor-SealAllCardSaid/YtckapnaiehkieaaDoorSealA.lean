/-
  seal's sum, by contract: run, Sum; the document's sum.
-/
import Derived.Test.YtckapnaiehkieaaDoorCodecA
import Derived.Test.YtckapnaiehkieaaDoorSealM
namespace Go.Proofs.YtckapnaiehkieaaDoor
open Go.RowKit

/-- The table of half bytes lies where start-up laid it. -/
def Tab (w : World) : Prop := ∀ i, i < 16 → w.cell? ⟨0, i, none⟩ = some (.int .u32 (halfTab.getD i 0))
theorem Tab.pos {w : World} (h : Tab w) : 0 < w.heap.size := by
  have := World.block_lt_of_cell? w _ (h 0 (by decide))
  exact this
theorem Tab.below {w w' : World} {B : Nat} (h : Tab w) (hB : 0 < B) (hb : Below B w w') : Tab w' := fun i hi => (hb.cell (p := ⟨_, i, none⟩) hB).trans (h i hi)

/-- Half a byte's step, as the walk meets it. -/
theorem tab_step {w : World} (hT : Tab w) {r : Nat} (h : r < 4294967296) :
    bits .and .u32 (r : Int) 15 = ((r % 16 : Nat) : Int) ∧ bits .xor .u32 ((r : Int) / 16) (bits4 (r % 16) : Nat) = ((bits4 r : Nat) : Int) ∧
    w.cell? ⟨0, r % 16, none⟩ = some (.int .u32 (bits4 (r % 16) : Nat)) := by
  have hm : r % 16 < 16 := Nat.mod_lt _ (by decide)
  refine ⟨?_, ?_, ?_⟩
  · have := u32_and_nat r 15 h (by decide)
    rw [show (r &&& 15) = r % 16 from Nat.and_two_pow_sub_one_eq_mod r 4] at this
    simpa using this
  · have := u32_xor_nat (r / 16) (bits4 (r % 16)) (by omega) (bits4_lt (by omega))
    rw [← bits4_tab] at this
    simpa using this
  · rw [hT _ hm, halfTab_is _ hm]

set_option maxHeartbeats 400000 in
theorem run_any (r : Nat) (a : Option Addr) (n cap B : Nat) (bs : List UInt8) (w : World) (hT : Tab w) (hr32 : r < 4294967296) (hl : bs.length = n) (hr : Rd w B a (cb bs)) (hn : n ≤ 4194304) :
    Calls Tryd.prog 24 #[.int .u32 (r : Int), .slice a n cap] w fun e w' => e = .returned (.int .u32 (crc r bs : Nat)) ∧ w = w' := by
  have HL := Lib.hid hl; clear hl
  have HT := Lib.hid hT; clear hT
  go_enter Tryd.func24, Tryd.ntmps24
  go_wp2
  go_loop [0, 9] (fun m i => ∃ k : Nat, k ≤ n ∧ i = .int .i64 k ∧ m = .int .u32 (crc r (bs.take k) : Nat)) (fun _ i => n - (intOf i).toNat)
  case atStart => exact ⟨0, Nat.zero_le _, rfl, by simp [crc]⟩
  case round =>
    obtain ⟨k, hk, rfl, rfl⟩ := hrel
    by_cases hlt : k < n
    · obtain ⟨b, o, rfl, _, hc⟩ := hr.pos (by rw [length_cb, HL.out]; omega)
      have hck := hc k (by rw [length_cb, HL.out]; omega)
      clear hc
      simp only [cb, List.getElem_map] at hck
      have hx := crc_lt (bs.take k) hr32
      have hst := crc_snoc r (bs.take k) (bs[k]'(by rw [HL.out]; omega))
      rw [← take_snoc' bs k (by rw [HL.out]; omega)] at hst
      generalize hC : crc r (bs.take k) = c at *
      have HC := Lib.hid hC; clear hC
      have hb8 := (bs[k]'(by rw [HL.out]; omega)).toNat_lt
      generalize (bs[k]'(by rw [HL.out]; omega)).toNat = x at *
      have h1 : c ^^^ x < 4294967296 := Nat.xor_lt_two_pow (n := 32) hx (by omega)
      have e1 := u32_xor_nat c x hx (by omega)
      have h2 := bits4_lt h1
      have h3 := bits4_lt h2
      obtain ⟨e2, e3, c1⟩ := tab_step HT.out h1
      obtain ⟨e4, e5, c2⟩ := tab_step HT.out h2
      have hst' : crc r (bs.take (k + 1)) = bits4 (bits4 (c ^^^ x)) := hst
      have HST := Lib.hid hst'; clear hst hst'
      generalize c ^^^ x = r1 at *
      have m1 : r1 % 16 < 16 := Nat.mod_lt _ (by decide)
      have l1 := bits4_lt (r := r1 % 16) (by omega)
      generalize hH1 : bits4 (r1 % 16) = t1 at *
      have HH1 := Lib.hid hH1; clear hH1
      generalize hR2 : bits4 r1 = r2 at *
      have HR2 := Lib.hid hR2; clear hR2
      have m2 : r2 % 16 < 16 := Nat.mod_lt _ (by decide)
      generalize hH2 : bits4 (r2 % 16) = t2 at *
      have HH2 := Lib.hid hH2; clear hH2
      generalize hR3 : bits4 r2 = r3 at *
      have HR3 := Lib.hid hR3; clear hR3
      go_wp2
      go_round
      case rel => exact ⟨k + 1, by omega, by go_num, by rw [HST.out]⟩
      case measure => simp [intOf]; omega
    · obtain rfl : k = n := by omega
      rw [List.take_of_length_le (by rw [HL.out]; omega)]
      go_wp2
      go_ret
      exact ⟨rfl, rfl⟩

theorem turned (c : Nat) (h : c < 4294967296) : bits .xor .u32 IntKind.u32.max (c : Int) = ((4294967295 - c : Nat) : Int) := by
  have e : IntKind.u32.max = ((4294967295 : Nat) : Int) := rfl
  rw [e, u32_xor_nat _ _ (by omega) h]
  congr 1
  apply Nat.eq_of_testBit_eq
  intro i
  have h2 := Nat.testBit_two_pow_sub_succ (n := 32) h i
  rw [show 2 ^ 32 - (c + 1) = 4294967295 - c from by omega] at h2
  rw [Nat.testBit_xor, h2, show (4294967295 : Nat) = 2 ^ 32 - 1 from rfl, Nat.testBit_two_pow_sub_one]
  by_cases hi : i < 32
  · simp [hi]
  · have : c.testBit i = false := Nat.testBit_lt_two_pow (Nat.lt_of_lt_of_le h (show 2 ^ 32 ≤ 2 ^ i from Nat.pow_le_pow_right (by omega) (by omega)))
    simp [hi, this]
theorem unsigned32 : IntKind.u32.signed = false := rfl

set_option maxHeartbeats 400000 in
theorem sum_any (a : Option Addr) (n cap B : Nat) (bs : List UInt8) (w : World) (hT : Tab w) (hl : bs.length = n) (hr : Rd w B a (cb bs)) (hn : n ≤ 4194304) :
    Calls Tryd.prog 11 #[.slice a n cap] w fun e w' => e = .returned (.int .u32 (sumOf bs : Nat)) ∧ w = w' := by
  have HL := Lib.hid hl; clear hl
  have HT := Lib.hid hT; clear hT
  have hlt := crc_lt bs (r := 4294967295) (by omega)
  go_enter Tryd.func11, Tryd.ntmps11
  go_wp2_with fail
  refine (run_any 4294967295 a n cap B bs w HT.out (by omega) HL.out hr hn).mono ?_
  rintro e w' ⟨rfl, rfl⟩
  have ht := turned _ hlt
  have hu := unsigned32
  go_wp2_with fail
  go_ret
  exact ⟨rfl, rfl⟩

set_option maxHeartbeats 800000 in
theorem ref_sum_any (a : Option Addr) (n cap B : Nat) (bs : List UInt8) (w : World) (hl : bs.length = n) (hr : Rd w B a (cb bs)) (hn : n ≤ 4194304) :
    Calls Tryd.prog 14 #[.slice a n cap] w fun e w' => e = .returned (.int .u32 (sumOf bs : Nat)) ∧ w = w' := by
  have HL := Lib.hid hl; clear hl
  go_enter Tryd.func14, Tryd.ntmps14
  go_wp2
  go_loop [3, 4] (fun m i => ∃ k : Nat, k ≤ n ∧ i = .int .i64 k ∧ m = .int .u32 (crc 4294967295 (bs.take k) : Nat)) (fun _ i => n - (intOf i).toNat)
  case atStart => exact ⟨0, Nat.zero_le _, rfl, by simp [crc]⟩
  case round =>
    obtain ⟨k, hk, rfl, rfl⟩ := hrel
    by_cases hlt : k < n
    · obtain ⟨b, o, rfl, _, hc⟩ := hr.pos (by rw [length_cb, HL.out]; omega)
      have hck := hc k (by rw [length_cb, HL.out]; omega)
      clear hc
      simp only [cb, List.getElem_map] at hck
      have hx := crc_lt (bs.take k) (r := 4294967295) (by omega)
      have hst := crc_snoc 4294967295 (bs.take k) (bs[k]'(by rw [HL.out]; omega))
      rw [← take_snoc' bs k (by rw [HL.out]; omega)] at hst
      generalize hC : crc 4294967295 (bs.take k) = c at *
      have HC := Lib.hid hC; clear hC
      have hb8 := (bs[k]'(by rw [HL.out]; omega)).toNat_lt
      generalize (bs[k]'(by rw [HL.out]; omega)).toNat = x at *
      have h1 : c ^^^ x < 4294967296 := Nat.xor_lt_two_pow (n := 32) hx (by omega)
      have e1 := u32_xor_nat c x hx (by omega)
      have HST := Lib.hid hst; clear hst
      go_wp2
      go_loop [3, 5] (fun m i => ∃ j : Nat, j ≤ 8 ∧ i = .int .i64 j ∧ ∃ y : Nat, y < 4294967296 ∧ m = .int .u32 (y : Int) ∧ bitsN (8 - j) y = bits8 (c ^^^ x)) (fun _ i => 8 - (intOf i).toNat)
      case atStart => exact ⟨0, Nat.zero_le _, rfl, _, h1, rfl, rfl⟩
      case round =>
        obtain ⟨j, hj, rfl, y, hy, rfl, hb⟩ := hrel
        have HB := Lib.hid hb; clear hb
        clear e1
        by_cases hj8 : j < 8
        · have hz := bit1_lt hy
          have hn := bitsN_succ (8 - (j + 1)) y
          rw [show 8 - (j + 1) + 1 = 8 - j from by omega] at hn
          have HN := Lib.hid hn; clear hn
          rcases Nat.mod_two_eq_zero_or_one y with h2 | h2
          · have hy2 : bit1 y = y / 2 := by unfold bit1; rw [if_neg (by omega), Nat.xor_zero]
            have HY := Lib.hid hy2; clear hy2
            go_wp2
            refine ⟨⟨j + 1, by omega, by go_num, y / 2, by omega, by go_num, ?_⟩, ?_⟩
            · rw [← HY.out, ← HN.out, HB.out]
            · simp [intOf]; omega
          · have hy2 : bit1 y = (y / 2) ^^^ poly := by unfold bit1; rw [if_pos h2]
            have HY := Lib.hid hy2; clear hy2
            have e2 := u32_xor_nat (y / 2) poly (by omega) (by decide)
            rw [← HY.out] at e2
            unfold poly at e2
            generalize hZ : bit1 y = z at *
            have HZ := Lib.hid hZ; clear hZ
            simp only [Int.natCast_ediv, Int.cast_ofNat_Int] at e2
            go_wp2
            refine ⟨⟨j + 1, by omega, by go_num, z, hz, rfl, ?_⟩, ?_⟩
            · rw [← HN.out, HB.out]
            · simp [intOf]; omega
        · obtain rfl : j = 8 := by omega
          obtain rfl : y = byte1 c x := HB.out
          go_wp2
          go_round
          case rel => exact ⟨k + 1, by omega, by go_num, by rw [HST.out]⟩
          case measure => simp [intOf]; omega
    · obtain rfl : k = n := by omega
      rw [List.take_of_length_le (by rw [HL.out]; omega)]
      have hx := crc_lt bs (r := 4294967295) (by omega)
      have ht := turned _ hx
      have hu := unsigned32
      go_wp2
      go_ret
      exact ⟨rfl, rfl⟩
end Go.Proofs.YtckapnaiehkieaaDoor
