/-
  seal's head and Frame, by contract.
-/
import Derived.Test.YtckapnaiehkieaaDoorSealA
import Derived.Test.YtckapnaiehkieaaDoorLaw01a
namespace Go.Proofs.YtckapnaiehkieaaDoor
open Go.RowKit

/-- The number of 'n' bytes as four bytes, and the sum of these and the bytes behind them. -/
def sizeB (bs : List UInt8) : List UInt8 := lowB (bs.length : Int) 4
def sumB (bs : List UInt8) : Nat := sumOf (sizeB bs ++ bs)
def headB (bs : List UInt8) : List UInt8 := sizeB bs ++ lowB (sumB bs : Int) 4
/-- A frame's bytes. -/
def frameB (bs : List UInt8) : List UInt8 := headB bs ++ bs
@[simp] theorem length_sizeB (bs : List UInt8) : (sizeB bs).length = 4 := length_lowB _ _
@[simp] theorem length_headB (bs : List UInt8) : (headB bs).length = 8 := by simp [headB]
theorem length_frameB (bs : List UInt8) : (frameB bs).length = 8 + bs.length := by simp [frameB]

theorem low_eight (v : Int) : low v 8 = low v 4 ++ (low v 8).drop 4 := rfl

set_option maxHeartbeats 800000 in
theorem head_any (a : Option Addr) (n cap B : Nat) (bs : List UInt8) (w : World) (hT : Tab w) (hl : bs.length = n) (hr : Rd w B a (cb bs)) (hB : B ≤ w.heap.size) (hn : n ≤ 1048576) :
    Calls Tryd.prog 25 #[.slice a n cap] w fun e w' =>
      e = .returned (.slice (some ⟨w.heap.size + 1, 0, none⟩) 8 12) ∧
      (w.alloc (.cells (cb (sizeB bs)).toArray 5)).alloc (.cells (cb (sizeB bs) ++ low (sumB bs : Int) 8).toArray 5) = w' := by
  have hx : low (n : Int) 4 = cb (sizeB bs) := by rw [low_lowB, sizeB, hl]
  have HX := Lib.hid hx; clear hx
  have HL := Lib.hid hl; clear hl
  have HT := Lib.hid hT; clear hT
  have hs : sumOf (sizeB bs ++ bs) = sumB bs := rfl
  have hlt := sumOf_lt (sizeB bs ++ bs)
  have hc := crc_lt (sizeB bs ++ bs) (r := 4294967295) (by omega)
  have ht := turned _ hc
  have hsum : (4294967295 - crc 4294967295 (sizeB bs ++ bs)) = sumB bs := rfl
  rw [hsum] at ht
  rw [hs] at hlt
  have hap := crc_append 4294967295 (sizeB bs) bs
  have HA := Lib.hid hap; clear hap hs hsum
  rw [HA.out] at ht hc
  generalize sumB bs = s at *
  have h4 : (sizeB bs).length = 4 := length_sizeB bs
  have H4 := Lib.hid h4; clear h4
  have hw : IntKind.u64.wrap (s : Int) = (s : Int) := by rw [IntKind.wrap_u64]; omega
  have HW := Lib.hid hw; clear hw
  have hu := unsigned32
  go_enter Tryd.func25, Tryd.ntmps25
  go_wp2_with fail
  refine (put_number_ok none 0 0 (n : Int) [] 0 w rfl Rd.nil (Nat.zero_le _) (by simp) (by omega) (by omega) (by omega)).mono ?_
  rintro e w' ⟨rfl, rfl⟩
  rw [List.nil_append, HX.out]
  go_wp2_with fail
  refine (run_any 4294967295 (some ⟨w.heap.size, 0, none⟩) 4 4 (w.heap.size + 1) (sizeB bs) _ (HT.out.below HT.out.pos ((Below.refl _ _).alloc (Nat.le_refl _) _)) (by omega) H4.out (Rd.new w _ _) (by omega)).mono ?_
  rintro e w' ⟨rfl, rfl⟩
  have hc0 := crc_lt (sizeB bs) (r := 4294967295) (by omega)
  go_wp2_with fail
  refine (run_any (crc 4294967295 (sizeB bs)) a n cap B bs _ (HT.out.below HT.out.pos ((Below.refl _ _).alloc (Nat.le_refl _) _)) hc0 HL.out (hr.alloc hB _) (by omega)).mono ?_
  rintro e w' ⟨rfl, rfl⟩
  go_wp2_with fail
  refine (put_int_any (some ⟨w.heap.size, 0, none⟩) 4 4 (s : Int) (cb (sizeB bs)) (w.heap.size + 1) _ (by rw [length_cb, H4.out]) (Rd.new w _ _) (by simp) (cb_one _) (by omega)).mono ?_
  rintro e w' ⟨rfl, rfl⟩
  rw [HW.out]
  go_wp2_with fail
  go_ret
  exact ⟨rfl, rfl⟩

/-- What head answers is a row of the call's own. -/
theorem head_own (w : World) (base : Nat) (bs : List UInt8) (hb : base ≤ w.heap.size) :
    ((w.alloc (.cells (cb (sizeB bs)).toArray 5)).alloc (.cells (cb (sizeB bs) ++ low (sumB bs : Int) 8).toArray 5)).ownsRow base 5 1 (.slice (some ⟨w.heap.size + 1, 0, none⟩) 8 12) 8 (cb (headB bs)) := by
  refine ⟨by simp, .inr ⟨w.heap.size + 1, 12, _, rfl, by omega, heap_alloc2_new w _ _, by omega, by unfold maxLen; omega, by simp, ?_⟩⟩
  show List.take 8 (cb (sizeB bs) ++ low (sumB bs : Int) 8) = _
  rw [low_eight, headB, cb_append, ← low_lowB, ← List.append_assoc]
  exact List.take_left' (by simp)

theorem frame_no (a : Option Addr) (n cap : Nat) (w : World) (hn : 1048576 < n) (hm : n ≤ maxLen) :
    Calls Tryd.prog 15 #[.slice a n cap] w fun e w' => e = .returned (.tuple #[.slice none 0 0, .int .i64 2]) ∧ w = w' := by
  unfold maxLen at hm
  go_enter Tryd.func15, Tryd.ntmps15
  go_wp2_with fail
  go_ret2
  exact ⟨rfl, rfl⟩

set_option maxHeartbeats 800000 in
theorem frame_ok (a : Option Addr) (n cap : Nat) (bs : List UInt8) (w : World) (hT : Tab w) (hl : bs.length = n) (hr : Rd w w.heap.size a (cb bs)) (hn : n ≤ 1048576) :
    Calls Tryd.prog 15 #[.slice a n cap] w fun e w' =>
      ∃ o, e = .returned (.tuple #[o, .int .i64 0]) ∧ w'.ownsRow w.heap.size 5 1 o (8 + n) (cb (frameB bs)) ∧ Below w.heap.size w w' := by
  obtain ⟨i0, hi, hz0, hz1, hz2⟩ := info_parts info_byte
  have HL := Lib.hid hl; clear hl
  have HT := Lib.hid hT; clear hT
  go_enter Tryd.func15, Tryd.ntmps15
  go_wp2_with fail
  refine (head_any a n cap _ bs w HT.out HL.out hr (Nat.le_refl _) hn).mono ?_
  rintro e w' ⟨rfl, rfl⟩
  have hown := head_own w w.heap.size bs (Nat.le_refl _)
  have hb := ((Below.refl w.heap.size w).alloc (Nat.le_refl _) (.cells (cb (sizeB bs)).toArray 5)).alloc (by simp) (.cells (cb (sizeB bs) ++ low (sumB bs : Int) 8).toArray 5)
  generalize (w.alloc (.cells (cb (sizeB bs)).toArray 5)).alloc (.cells (cb (sizeB bs) ++ low (sumB bs : Int) 8).toArray 5) = w1 at *
  go_wp2_with (at_builtin; refine wpList_append_rd rfl _ _ 22 rfl w.heap.size 5 i0 (.int .u8 0) 1 Tryd.underlying22 hi hz0 hz1 hz2 rfl _ 8 (cb (headB bs)) rfl hown w.heap.size _ n cap (cb bs) rfl (hr.below hb (Nat.le_refl _)) ?c1 (cb_one _) ?c2 ?c3 hb.size ?_)
  case c1 => rw [length_cb, HL.out]
  case c2 => unfold maxLen; omega
  case c3 => omega
  intro o' w2 hown' hgrow
  have hb' := hb.grown hgrow hb.size (fun j hj => (hown.lt j hj).1)
  rw [← cb_append] at hown'
  go_wp2
  go_ret2
  exact ⟨o', rfl, hown', hb'⟩
end Go.Proofs.YtckapnaiehkieaaDoor
