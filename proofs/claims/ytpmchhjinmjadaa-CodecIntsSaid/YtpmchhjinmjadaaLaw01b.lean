/-
  Layer 1's statements, walked.
-/
import Derived.Test.YtpmchhjinmjadaaLaw01a
import Derived.Test.YtpmchhjinmjadaaKeep
namespace Go.Proofs.Ytpmchhjinmjadaa
open Go.RowKit

theorem str_cat (xs ys : List UInt8) : (⟨xs.toArray⟩ ++ ⟨ys.toArray⟩ : ByteArray) = ⟨(xs ++ ys).toArray⟩ := by
  apply ByteArray.ext
  simp [ByteArray.data_append]
theorem str_cat_same (xs ys : List UInt8) : (xs ++ ys == (⟨xs.toArray⟩ ++ ⟨ys.toArray⟩ : ByteArray).toList) = true := by
  rw [str_cat]
  simp [go_sem]

/-- What was lent reads as its bytes. -/
theorem lent_rd (w : World) (bs : List UInt8) {n : Nat} (hn : bs.length = n) :
    Rd (w.alloc (.cells (cb (bs ++ [165, 90])).toArray 5)) (w.heap.size + 1) (some ⟨w.heap.size, 0, none⟩) (cb bs) := by
  have h := (Rd.new w (bs ++ [165, 90]) 5).take n
  rw [cb_append, List.take_left' (by rw [length_cb, hn])] at h
  rw [cb_append]
  exact h

/-- The world in which what was lent has been given back, behind a call that made one block of bytes: what is still known of it. -/
structure Gave (w w3 : World) (a : Option Addr) (bs out : List UInt8) : Prop where
  below : Below w.heap.size w w3
  size : w3.heap.size = w.heap.size + 2
  old : Rd w3 w3.heap.size a (cb bs)
  new : Rd w3 w3.heap.size (some ⟨w.heap.size + 1, 0, none⟩) (cb out)

theorem gave (w : World) (a : Option Addr) (bs out : List UInt8) (hr : Rd w w.heap.size a (cb bs)) (A Y : Array Value) :
    Gave w (((w.alloc (.cells A 5)).alloc (.cells (cb out).toArray 5)).setRow w.heap.size Y) a bs out := by
  have hb : Below w.heap.size w (((w.alloc (.cells A 5)).alloc (.cells (cb out).toArray 5)).setRow w.heap.size Y) :=
    below_setRow (((Below.refl _ _).alloc (Nat.le_refl _) _).alloc (by simp) _) (Nat.le_refl _) _
  have hz : (((w.alloc (.cells A 5)).alloc (.cells (cb out).toArray 5)).setRow w.heap.size Y).heap.size = w.heap.size + 2 := by simp
  refine ⟨hb, hz, (hr.below hb (Nat.le_refl _)).more (by rw [hz]; omega), ?_⟩
  have h1 : (((w.alloc (.cells A 5)).alloc (.cells (cb out).toArray 5)).setRow w.heap.size Y).heap[w.heap.size + 1]? = some (.cells (cb out).toArray 5 (0, 0)) := by
    rw [setRow_other _ _ _ _ (by omega)]
    exact heap_alloc2_new w _ _
  have h := Rd.row (off := 0) (n := (cb out).length) h1 (B := w.heap.size + 2) (by omega) (by omega)
  rw [List.drop_zero, List.take_length] at h
  rw [hz]; exact h

set_option maxHeartbeats 1000000 in
theorem walk_numbers (a : Option Addr) (n cap : Nat) (bs : List UInt8) (v : Int) (w : World) (hl : bs.length = n) (hr : Rd w w.heap.size a (cb bs)) :
    Calls Try.prog 3 #[.slice a n cap, .int .i64 v] w fun e w' => e = .returned (.bool true) ∧ Below w.heap.size w w' := by
  have HL := Lib.hid hl; clear hl
  by_cases hlong : 262144 < n
  · go_enter Try.func3, Try.ntmps3
    go_wp2_with fail
    go_ret
    exact ⟨rfl, Below.refl _ _⟩
  · by_cases hno : v < 0 ∨ 1000000000 < v
    · go_enter Try.func3, Try.ntmps3
      go_wp2_with fail
      refine (lend_any a cap n _ bs w HL.out hr (Nat.le_refl _) (by omega)).mono ?_
      rintro e w' ⟨rfl, rfl⟩
      go_wp2_with fail
      refine (put_number_no _ _ _ v _ hno).mono ?_
      rintro e w' ⟨rfl, rfl⟩
      go_wp2_with fail
      refine (back_any a cap n w.heap.size w.heap.size bs _ HL.out (hr.alloc (Nat.le_refl _) _) (Nat.le_refl _) (by omega) (heap_alloc_new w _)).mono ?_
      rintro e w' ⟨rfl, Y, rfl⟩
      rw [setRow_alloc]
      go_wp2_with fail
      refine (ref_number_no v _ hno).mono ?_
      rintro e w' ⟨rfl, rfl⟩
      go_wp2_with fail
      refine (puts_any _).mono ?_
      rintro e w2 ⟨rfl, hb2⟩
      go_wp2
      go_ret
      exact ⟨rfl, ((Below.refl _ _).alloc (Nat.le_refl _) _).trans (hb2.mono (by simp))⟩
    · have h0 : 0 ≤ v := by omega
      have h1 : v ≤ 1000000000 := by omega
      go_enter Try.func3, Try.ntmps3
      go_wp2_with fail
      refine (lend_any a cap n _ bs w HL.out hr (Nat.le_refl _) (by omega)).mono ?_
      rintro e w' ⟨rfl, rfl⟩
      go_wp2_with fail
      refine (put_number_ok (some ⟨w.heap.size, 0, none⟩) n (n + 2) v (cb bs) (w.heap.size + 1) _ (by rw [length_cb, HL.out]) (lent_rd w bs HL.out) (by simp) (cb_one _) (by omega) h0 h1).mono ?_
      rintro e w' ⟨rfl, rfl⟩
      rw [low_lowB, ← cb_append]
      go_wp2_with fail
      refine (back_any a cap n w.heap.size w.heap.size bs _ HL.out ((hr.alloc (Nat.le_refl _) _).alloc (by simp) _) (Nat.le_refl _) (by omega) (heap_alloc2_old w _ _)).mono ?_
      rintro e w' ⟨rfl, Y, rfl⟩
      obtain ⟨hb3, hz3, hr3, hn3⟩ := gave w a bs (bs ++ lowB v 4) hr (cb (bs ++ [165, 90])).toArray Y
      generalize World.setRow _ _ Y = w3 at *
      go_wp2_with fail
      refine (ref_number_ok v _ h0 h1).mono ?_
      rintro e w4 ⟨o, rfl, hown, hb4⟩
      obtain ⟨a4, cap4, rfl, hr4, _⟩ := Rd.own hown
      rw [low_lowB] at hr4
      go_wp2_with fail
      refine (puts_any _).mono ?_
      rintro e w5 ⟨rfl, hb5⟩
      have hcv1 := fun c => run_string_of (P := Try.prog) ((hn3.below hb4 (Nat.le_refl _)).below hb5 hb4.size) 22 9 5 (n + 4) c (by simp [HL.out]) Try.underlying22 Try.underlying5 Try.underlying9
      have hcv2 := fun c => run_string_of (P := Try.prog) ((hr3.below hb4 (Nat.le_refl _)).below hb5 hb4.size) 22 9 5 n c HL.out Try.underlying22 Try.underlying5 Try.underlying9
      have hcv3 := fun c => run_string_of (P := Try.prog) (hr4.below hb5 (Nat.le_refl _)) 22 9 5 4 c (by simp) Try.underlying22 Try.underlying5 Try.underlying9
      have hfin := str_cat_same bs (lowB v 4)
      have hlen : ¬ 9223372036854775807 < bs.length + 4 := by rw [HL.out]; omega
      go_wp2
      go_ret
      exact ⟨rfl, hb3.trans ((hb4.trans (hb5.mono hb4.size)).mono hb3.size)⟩
end Go.Proofs.Ytpmchhjinmjadaa
