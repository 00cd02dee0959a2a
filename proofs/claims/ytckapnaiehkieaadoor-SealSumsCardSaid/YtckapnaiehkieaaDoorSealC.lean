/-
  bytes.Equal, bytes.Clone, seal's First, by contract.
-/
import Derived.Test.YtckapnaiehkieaaDoorSealB
import Derived.Lib.SliceRun
import Derived.IntWalk
import Derived.BigQuiet
import Derived.Deep.QuietTactic
namespace Go.Proofs.YtckapnaiehkieaaDoor
open Go.RowKit

/-- A row of the call's own stands behind what leaves all older blocks alone. -/
theorem own_below {w w' : World} {base : Nat} {e : TypeId} {size : Nat} {v : Value} {n : Nat} {xs : List Value} (h : w.ownsRow base e size v n xs) (hb : Below w.heap.size w w') : w'.ownsRow base e size v n xs := by
  rcases h with ⟨hl, h | ⟨g, cap, cur, h1, h2, h3, h4⟩⟩
  · exact ⟨hl, .inl h⟩
  · have hg : g < w.heap.size := by
      rcases Nat.lt_or_ge g w.heap.size with hlt | hge
      · exact hlt
      · rw [Array.getElem?_eq_none hge] at h3; cases h3
    exact ⟨hl, .inr ⟨g, cap, cur, h1, h2, (hb.block g hg).trans h3, h4⟩⟩
theorem str_inj {xs ys : List UInt8} (h : (⟨xs.toArray⟩ : ByteArray) = ⟨ys.toArray⟩) : xs = ys := by
  have := congrArg (fun b : ByteArray => b.data.toList) h
  simpa using this

set_option maxHeartbeats 400000 in
theorem equal_any (a1 a2 : Option Addr) (n1 c1 n2 c2 B1 B2 : Nat) (xs ys : List UInt8) (w : World) (h1 : xs.length = n1) (h2 : ys.length = n2) (r1 : Rd w B1 a1 (cb xs)) (r2 : Rd w B2 a2 (cb ys)) :
    Calls Tryd.prog 30 #[.slice a1 n1 c1, .slice a2 n2 c2] w fun e w' => e = .returned (.bool (xs == ys)) ∧ w = w' := by
  have hcx := fun c => run_string_of (P := Tryd.prog) r1 22 9 5 n1 c h1 Tryd.underlying22 Tryd.underlying5 Tryd.underlying9
  have hcb := fun c => run_string_of (P := Tryd.prog) r2 22 9 5 n2 c h2 Tryd.underlying22 Tryd.underlying5 Tryd.underlying9
  clear h1 h2 r1 r2
  go_enter Tryd.func30, Tryd.ntmps30
  go_wp2
  go_ret
  exact ⟨rfl, rfl⟩

set_option maxHeartbeats 400000 in
theorem clone_any (x : Addr) (n cap B : Nat) (bs : List UInt8) (w : World) (hl : bs.length = n) (hr : Rd w B (some x) (cb bs)) (hB : B ≤ w.heap.size) (hn : n ≤ 4194304) :
    Calls Tryd.prog 31 #[.slice (some x) n cap] w fun e w' =>
      ∃ o, e = .returned o ∧ w'.ownsRow w.heap.size 5 1 o n (cb bs) ∧ Below w.heap.size w w' := by
  obtain ⟨i0, hi, hz0, hz1, hz2⟩ := info_parts info_byte
  have HL := Lib.hid hl; clear hl
  have hq := fun W : World => Lib.run_eql_slice_nil (P := Tryd.prog) W 22 5 (some x) n cap 0 0 Tryd.underlying22
  have hown := World.ownsRow_made (base := w.heap.size) (size := 1) (e := 5) w #[] 0 (Nat.le_refl _) (Nat.zero_le _) rfl
  have hb := (Below.refl w.heap.size w).alloc (Nat.le_refl _) (.cells #[] 5)
  go_enter Tryd.func31, Tryd.ntmps31
  go_wp2_with (at_builtin; refine wpList_append_rd rfl _ _ 22 rfl w.heap.size 5 i0 (.int .u8 0) 1 Tryd.underlying22 hi hz0 hz1 hz2 rfl _ 0 [] rfl hown w.heap.size _ n cap (cb bs) rfl ((hr.more hB).below hb (Nat.le_refl _)) ?c1 (cb_one _) ?c2 ?c3 hb.size ?_)
  case c1 => rw [length_cb, HL.out]
  case c2 => unfold maxLen; omega
  case c3 => omega
  intro o' w2 hown' hgrow
  have hb' := hb.grown hgrow hb.size (fun j hj => (hown.lt j hj).1)
  go_wp2
  go_ret
  exact ⟨o', rfl, hown', hb'⟩
/-- What stands behind a frame's head, so far as its length says. -/
def bodyB (bs : List UInt8) : List UInt8 := (bs.drop 8).take (le (bs.take 4))
/-- First's code, the bytes and the frame's length. -/
def fstE (bs : List UInt8) : Int := if bs.length < 8 then 20 else if 1048576 < le (bs.take 4) then 21 else if bs.length < 8 + le (bs.take 4) then 20 else if sumB (bodyB bs) = le ((bs.drop 4).take 4) then 0 else 21
def fstN (bs : List UInt8) : Nat := if fstE bs = 0 then 8 + le (bs.take 4) else 0
def fstV (bs : List UInt8) : List UInt8 := if fstE bs = 0 then bodyB bs else []
theorem fst_short {bs : List UInt8} (h : bs.length < 8) : fstE bs = 20 := by simp [fstE, h]
theorem fst_big {bs : List UInt8} (h : ¬ bs.length < 8) (h1 : 1048576 < le (bs.take 4)) : fstE bs = 21 := by simp [fstE, h, h1]
theorem fst_end {bs : List UInt8} (h : ¬ bs.length < 8) (h1 : ¬ 1048576 < le (bs.take 4)) (h2 : bs.length < 8 + le (bs.take 4)) : fstE bs = 20 := by simp [fstE, h, h1, h2]
theorem fst_bad {bs : List UInt8} (h : ¬ bs.length < 8) (h1 : ¬ 1048576 < le (bs.take 4)) (h2 : ¬ bs.length < 8 + le (bs.take 4)) (h3 : ¬ sumB (bodyB bs) = le ((bs.drop 4).take 4)) : fstE bs = 21 := by simp [fstE, h, h1, h2, h3]
theorem fst_ok {bs : List UInt8} (h : ¬ bs.length < 8) (h1 : ¬ 1048576 < le (bs.take 4)) (h2 : ¬ bs.length < 8 + le (bs.take 4)) (h3 : sumB (bodyB bs) = le ((bs.drop 4).take 4)) : fstE bs = 0 := by simp [fstE, h, h1, h2, h3]
theorem fst_inv {bs : List UInt8} (h : fstE bs = 0) : ¬ bs.length < 8 ∧ ¬ 1048576 < le (bs.take 4) ∧ ¬ bs.length < 8 + le (bs.take 4) ∧ sumB (bodyB bs) = le ((bs.drop 4).take 4) := by
  unfold fstE at h
  split at h
  · cases h
  · split at h
    · cases h
    · split at h
      · cases h
      · split at h
        · exact ⟨‹_›, ‹_›, ‹_›, ‹_›⟩
        · cases h
theorem length_bodyB {bs : List UInt8} (h2 : ¬ bs.length < 8 + le (bs.take 4)) : (bodyB bs).length = le (bs.take 4) := by
  unfold bodyB; rw [List.length_take, List.length_drop]; omega

theorem lowB_le : ∀ (bs : List UInt8), lowB (le bs : Int) bs.length = bs := by
  intro bs
  apply List.ext_getElem (by simp)
  intro i h1 h2
  simp only [lowB, List.getElem_map, List.getElem_range]
  have hb := bs[i].toNat_lt
  have e : (le bs : Int) / 2 ^ (8 * i) % 256 = (bs[i].toNat : Int) := by
    have h3 := le_append (bs.take i) (bs.drop i)
    rw [List.take_append_drop, List.drop_eq_getElem_cons h2] at h3
    have hl : (bs.take i).length = i := by simp; omega
    rw [hl, pow256] at h3
    have hlt := le_take_lt bs i (by omega)
    simp only [le] at h3
    have hp : (0 : Nat) < 2 ^ (8 * i) := Nat.pow_pos (by omega)
    have h4 : le bs / 2 ^ (8 * i) = bs[i].toNat + 256 * le (bs.drop (i + 1)) := by
      rw [h3, Nat.add_mul_div_left _ _ hp, Nat.div_eq_of_lt hlt, Nat.zero_add]
    have h5 : ((le bs : Nat) : Int) / 2 ^ (8 * i) = ((le bs / 2 ^ (8 * i) : Nat) : Int) := by simp
    rw [h5, h4]
    omega
  rw [e]
  simp
theorem le_lowB_of (v k : Nat) (h : v < 2 ^ (8 * k)) : le (lowB (v : Int) k) = v := by
  induction k generalizing v with
  | zero => have : v = 0 := by simpa using h
            subst this; rfl
  | succ k ih =>
    have hs : lowB (v : Int) (k + 1) = UInt8.ofNat (v % 256) :: lowB ((v / 256 : Nat) : Int) k := by
      unfold lowB
      rw [List.range_succ_eq_map, List.map_cons, List.map_map]
      congr 1
      · simp
        rfl
      · apply List.map_congr_left
        intro i _
        simp only [Function.comp_apply]
        congr 2
        have : ((v / 256 : Nat) : Int) = (v : Int) / 256 := by simp
        rw [this]
        rw [Int.ediv_ediv_of_nonneg (by omega : (0 : Int) ≤ 256)]
        congr 1
        rw [show 8 * i.succ = 8 + 8 * i from by omega, Int.pow_add]; rfl
    rw [hs, le, ih]
    · simp only [UInt8.toNat_ofNat']
      omega
    · have : 2 ^ (8 * (k + 1)) = 2 ^ (8 * k) * 256 := by rw [Nat.mul_add, Nat.pow_add]
      omega
theorem headB_iff {bs : List UInt8} (h : ¬ bs.length < 8) (h2 : ¬ bs.length < 8 + le (bs.take 4)) : (headB (bodyB bs) = bs.take 8) ↔ sumB (bodyB bs) = le ((bs.drop 4).take 4) := by
  have l4 : (bs.take 4).length = 4 := by simp; omega
  have l5 : ((bs.drop 4).take 4).length = 4 := by simp; omega
  have e1 : sizeB (bodyB bs) = bs.take 4 := by
    unfold sizeB; rw [length_bodyB h2]
    have := lowB_le (bs.take 4)
    rwa [l4] at this
  have e2 : bs.take 8 = bs.take 4 ++ (bs.drop 4).take 4 := by
    rw [← List.take_add]
  rw [e2, headB, e1, List.append_cancel_left_eq]
  constructor
  · intro h3
    have := le_lowB_of (sumB (bodyB bs)) 4 (sumOf_lt _)
    rw [h3] at this
    exact this.symm
  · intro h3
    rw [h3]
    have := lowB_le ((bs.drop 4).take 4)
    rwa [l5] at this
end Go.Proofs.YtckapnaiehkieaaDoor
