/-
  The check sum, as plain mathematics over natural numbers: a register's step by bits, by half bytes; that no two registers or bytes lead to one.
-/
import Derived.Test.YtckapnaiehkieaaDoorMem
namespace Go.Proofs.YtckapnaiehkieaaDoor

/-- What is laid over the register where a 1 falls out. -/
def poly : Nat := 3988292384
/-- The register, one bit to the right. -/
def bit1 (r : Nat) : Nat := (r / 2) ^^^ (if r % 2 = 1 then poly else 0)
def bits4 (r : Nat) : Nat := bit1 (bit1 (bit1 (bit1 r)))
def bits8 (r : Nat) : Nat := bits4 (bits4 r)
/-- A byte goes through the register. -/
def byte1 (r b : Nat) : Nat := bits8 (r ^^^ b)
/-- Bytes go through it. -/
def crc (r : Nat) (bs : List UInt8) : Nat := bs.foldl (fun r b => byte1 r b.toNat) r
/-- The sum: each bit turned. -/
def sumOf (bs : List UInt8) : Nat := 4294967295 - crc 4294967295 bs

/-- So many bits. -/
def bitsN : Nat → Nat → Nat
  | 0, r => r
  | n + 1, r => bitsN n (bit1 r)
theorem bitsN_succ (n r : Nat) : bitsN (n + 1) r = bitsN n (bit1 r) := rfl

theorem crc_nil (r : Nat) : crc r [] = r := rfl
theorem crc_cons (r : Nat) (b : UInt8) (bs : List UInt8) : crc r (b :: bs) = crc (byte1 r b.toNat) bs := rfl
theorem crc_append (r : Nat) (a b : List UInt8) : crc r (a ++ b) = crc (crc r a) b := by simp [crc, List.foldl_append]
theorem crc_snoc (r : Nat) (a : List UInt8) (b : UInt8) : crc r (a ++ [b]) = byte1 (crc r a) b.toNat := by rw [crc_append]; rfl

theorem bit1_lt {r : Nat} (h : r < 4294967296) : bit1 r < 4294967296 := by
  unfold bit1
  refine Nat.xor_lt_two_pow (n := 32) (by omega) ?_
  split
  · decide
  · decide
theorem bits4_lt {r : Nat} (h : r < 4294967296) : bits4 r < 4294967296 := bit1_lt (bit1_lt (bit1_lt (bit1_lt h)))
theorem bits8_lt {r : Nat} (h : r < 4294967296) : bits8 r < 4294967296 := bits4_lt (bits4_lt h)
theorem byte1_lt {r : Nat} (b : UInt8) (h : r < 4294967296) : byte1 r b.toNat < 4294967296 :=
  bits8_lt (Nat.xor_lt_two_pow (n := 32) h (by have := b.toNat_lt; omega))
theorem crc_lt {r : Nat} (bs : List UInt8) (h : r < 4294967296) : crc r bs < 4294967296 := by
  induction bs generalizing r with
  | nil => exact h
  | cons b bs ih => rw [crc_cons]; exact ih (byte1_lt b h)
theorem sumOf_lt (bs : List UInt8) : sumOf bs < 4294967296 := by unfold sumOf; omega

theorem xor_half (x y : Nat) : (x ^^^ y) / 2 = (x / 2) ^^^ (y / 2) := by
  apply Nat.eq_of_testBit_eq
  intro i
  simp [Nat.testBit_div_two]
theorem xor_mod2 (x y : Nat) : (x ^^^ y) % 2 = (x % 2 + y % 2) % 2 := by
  have h := Nat.testBit_xor x y 0
  simp only [Nat.testBit_zero] at h
  have hx := Nat.mod_two_eq_zero_or_one x
  have hy := Nat.mod_two_eq_zero_or_one y
  have hz := Nat.mod_two_eq_zero_or_one (x ^^^ y)
  generalize (x ^^^ y) % 2 = z at *
  rcases hx with hx | hx <;> rcases hy with hy | hy <;> rw [hx, hy] at h <;> rcases hz with hz | hz <;> subst hz <;> rw [hx, hy] <;> first | rfl | (exfalso; revert h; decide)
theorem poly_off (a : Nat) : poly ^^^ (poly ^^^ a) = a := by rw [← Nat.xor_assoc, Nat.xor_self, Nat.zero_xor]
theorem xor_swap (a b c : Nat) : a ^^^ (b ^^^ c) = b ^^^ (a ^^^ c) := by rw [← Nat.xor_assoc, Nat.xor_comm a b, Nat.xor_assoc]
theorem bit1_xor (x y : Nat) : bit1 (x ^^^ y) = bit1 x ^^^ bit1 y := by
  unfold bit1
  rw [xor_half, xor_mod2]
  have hx := Nat.mod_two_eq_zero_or_one x
  have hy := Nat.mod_two_eq_zero_or_one y
  rcases hx with hx | hx <;> rcases hy with hy | hy <;> simp only [hx, hy] <;> simp [Nat.xor_comm, xor_swap, poly_off]
theorem bits4_xor (x y : Nat) : bits4 (x ^^^ y) = bits4 x ^^^ bits4 y := by simp only [bits4, bit1_xor]
theorem bits8_xor (x y : Nat) : bits8 (x ^^^ y) = bits8 x ^^^ bits8 y := by simp only [bits8, bits4_xor]

theorem bit1_even (q : Nat) : bit1 (2 * q) = q := by
  unfold bit1
  rw [if_neg (by omega), Nat.xor_zero]
  omega
theorem bits4_up (q : Nat) : bits4 (16 * q) = q := by
  unfold bits4
  rw [show 16 * q = 2 * (2 * (2 * (2 * q))) from by omega, bit1_even, bit1_even, bit1_even, bit1_even]

/-- What the lowest four bits do while they fall out. -/
def halfTab : List Int := [0, 498536548, 997073096, 651767980, 1994146192, 1802195444, 1303535960, 1342533948, 3988292384, 4027552580, 3604390888, 3412177804, 2607071920, 2262029012, 2685067896, 3183342108]
theorem halfTab_is : ∀ t : Nat, t < 16 → halfTab.getD t 0 = (bits4 t : Int) := by decide

theorem split16 (r : Nat) : r = (16 * (r / 16)) ^^^ (r % 16) := by
  apply Nat.eq_of_testBit_eq
  intro i
  rw [Nat.testBit_xor]
  have h1 : (16 * (r / 16)).testBit i = (decide (i ≥ 4) && r.testBit i) := by
    rw [show (16 : Nat) = 2 ^ 4 from rfl, Nat.testBit_two_pow_mul, Nat.testBit_div_two_pow]
    by_cases h : i ≥ 4
    · simp [h, show i - 4 + 4 = i from by omega]
    · simp [h]
  have h2 : (r % 16).testBit i = (decide (i < 4) && r.testBit i) := by
    rw [show (16 : Nat) = 2 ^ 4 from rfl, Nat.testBit_mod_two_pow]
  rw [h1, h2]
  by_cases h : i < 4
  · simp [h, show ¬ (i ≥ 4) from by omega]
  · simp [h, show i ≥ 4 from by omega]
/-- Four bits at once. -/
theorem bits4_tab (r : Nat) : bits4 r = (r / 16) ^^^ bits4 (r % 16) := by
  conv => lhs; rw [split16 r, bits4_xor, bits4_up]

theorem bit1_zero {x : Nat} (h : x < 4294967296) (h0 : bit1 x = 0) : x = 0 := by
  unfold bit1 at h0
  split at h0
  · have : x / 2 = poly := by
      have := congrArg (fun z => z ^^^ poly) h0
      simpa [Nat.xor_assoc] using this
    unfold poly at this
    omega
  · rw [Nat.xor_zero] at h0
    omega
theorem bits4_zero {x : Nat} (h : x < 4294967296) (h0 : bits4 x = 0) : x = 0 :=
  bit1_zero h (bit1_zero (bit1_lt h) (bit1_zero (bit1_lt (bit1_lt h)) (bit1_zero (bit1_lt (bit1_lt (bit1_lt h))) h0)))
theorem bits8_zero {x : Nat} (h : x < 4294967296) (h0 : bits8 x = 0) : x = 0 := bits4_zero h (bits4_zero (bits4_lt h) h0)
theorem xor_zero_eq {x y : Nat} (h : x ^^^ y = 0) : x = y := by
  have := congrArg (fun z => z ^^^ y) h
  simpa [Nat.xor_assoc] using this
theorem bits8_inj {x y : Nat} (hx : x < 4294967296) (hy : y < 4294967296) (h : bits8 x = bits8 y) : x = y := by
  apply xor_zero_eq
  apply bits8_zero (Nat.xor_lt_two_pow (n := 32) hx hy)
  rw [bits8_xor, h, Nat.xor_self]
theorem byte1_inj {r s : Nat} {b : UInt8} (hr : r < 4294967296) (hs : s < 4294967296) (h : byte1 r b.toNat = byte1 s b.toNat) : r = s := by
  have hb := b.toNat_lt
  have := bits8_inj (Nat.xor_lt_two_pow (n := 32) hr (by omega)) (Nat.xor_lt_two_pow (n := 32) hs (by omega)) h
  have := congrArg (fun z => z ^^^ b.toNat) this
  simpa [Nat.xor_assoc] using this
theorem byte1_inj' {r : Nat} {b c : UInt8} (hr : r < 4294967296) (h : byte1 r b.toNat = byte1 r c.toNat) : b = c := by
  have hb := b.toNat_lt
  have hc := c.toNat_lt
  have := bits8_inj (Nat.xor_lt_two_pow (n := 32) hr (by omega)) (Nat.xor_lt_two_pow (n := 32) hr (by omega)) h
  have := congrArg (fun z => r ^^^ z) this
  simp only [← Nat.xor_assoc, Nat.xor_self, Nat.zero_xor] at this
  exact UInt8.toNat_inj.1 this
theorem crc_inj {r s : Nat} (bs : List UInt8) (hr : r < 4294967296) (hs : s < 4294967296) (h : crc r bs = crc s bs) : r = s := by
  induction bs generalizing r s with
  | nil => exact h
  | cons b bs ih => exact byte1_inj hr hs (ih (byte1_lt b hr) (byte1_lt b hs) h)
/-- One byte that is another one changes the register. -/
theorem crc_byte {r : Nat} (a : List UInt8) {b c : UInt8} (d : List UInt8) (hr : r < 4294967296) (h : crc r (a ++ b :: d) = crc r (a ++ c :: d)) : b = c := by
  rw [crc_append, crc_append, crc_cons, crc_cons] at h
  exact byte1_inj' (crc_lt a hr) (crc_inj d (byte1_lt b (crc_lt a hr)) (byte1_lt c (crc_lt a hr)) h)
theorem sumOf_byte (a : List UInt8) {b c : UInt8} (d : List UInt8) (h : sumOf (a ++ b :: d) = sumOf (a ++ c :: d)) : b = c := by
  unfold sumOf at h
  have h1 := crc_lt (a ++ b :: d) (r := 4294967295) (by omega)
  have h2 := crc_lt (a ++ c :: d) (r := 4294967295) (by omega)
  exact crc_byte a d (by omega) (show crc 4294967295 _ = crc 4294967295 _ by omega)
end Go.Proofs.YtckapnaiehkieaaDoor
