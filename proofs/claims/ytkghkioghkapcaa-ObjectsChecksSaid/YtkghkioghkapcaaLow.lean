/-
  The bytes of a number, the lowest first, and back.
-/
import Derived.Test.YtkghkioghkapcaaMem
namespace Go.Proofs.Ytkghkioghkapcaa
open Go.RowKit

/-- The bytes of a number, the lowest first. -/
def lowB (v : Int) (k : Nat) : List UInt8 := (List.range k).map fun i => UInt8.ofNat (v / 2 ^ (8 * i) % 256).toNat
@[simp] theorem length_lowB (v : Int) (k : Nat) : (lowB v k).length = k := by simp [lowB]
theorem low_lowB (v : Int) (k : Nat) : low v k = cb (lowB v k) := by
  unfold low lowB cb
  rw [List.map_map]
  apply List.map_congr_left
  intro i _
  have h : (UInt8.ofNat (v / 2 ^ (8 * i) % 256).toNat).toNat = (v / 2 ^ (8 * i) % 256).toNat := by
    simp only [UInt8.toNat_ofNat']
    omega
  simp only [Function.comp_apply, h]
  congr 1
  omega

theorem lowB_le : ∀ (bs : List UInt8), lowB (le bs : Int) bs.length = bs := by
  intro bs
  apply List.ext_getElem (by simp)
  intro i h1 h2
  simp only [lowB, List.getElem_map, List.getElem_range]
  have hb := bs[i].toNat_lt
  have e : (le bs : Int) / 2 ^ (8 * i) % 256 = (bs[i].toNat : Int) := by
    have h3 := le_append (bs.take i) (bs.drop i)
    rw [List.take_append_drop, List.drop_eq_getElem_cons h2] at h3
    have hl : (bs.take i).length = i := by simp; omega
    rw [hl, pow256] at h3
    have hlt := le_take_lt bs i (by omega)
    simp only [le] at h3
    have hp : (0 : Nat) < 2 ^ (8 * i) := Nat.pow_pos (by omega)
    have h4 : le bs / 2 ^ (8 * i) = bs[i].toNat + 256 * le (bs.drop (i + 1)) := by
      rw [h3, Nat.add_mul_div_left _ _ hp, Nat.div_eq_of_lt hlt, Nat.zero_add]
    have h5 : ((le bs : Nat) : Int) / 2 ^ (8 * i) = ((le bs / 2 ^ (8 * i) : Nat) : Int) := by simp
    rw [h5, h4]
    omega
  rw [e]
  simp
theorem le_lowB_of (v k : Nat) (h : v < 2 ^ (8 * k)) : le (lowB (v : Int) k) = v := by
  induction k generalizing v with
  | zero => have : v = 0 := by simpa using h
            subst this; rfl
  | succ k ih =>
    have hs : lowB (v : Int) (k + 1) = UInt8.ofNat (v % 256) :: lowB ((v / 256 : Nat) : Int) k := by
      unfold lowB
      rw [List.range_succ_eq_map, List.map_cons, List.map_map]
      congr 1
      · simp
        rfl
      · apply List.map_congr_left
        intro i _
        simp only [Function.comp_apply]
        congr 2
        have : ((v / 256 : Nat) : Int) = (v : Int) / 256 := by simp
        rw [this]
        rw [Int.ediv_ediv_of_nonneg (by omega : (0 : Int) ≤ 256)]
        congr 1
        rw [show 8 * i.succ = 8 + 8 * i from by omega, Int.pow_add]; rfl
    rw [hs, le, ih]
    · simp only [UInt8.toNat_ofNat']
      omega
    · have : 2 ^ (8 * (k + 1)) = 2 ^ (8 * k) * 256 := by rw [Nat.mul_add, Nat.pow_add]
      omega
end Go.Proofs.Ytkghkioghkapcaa
