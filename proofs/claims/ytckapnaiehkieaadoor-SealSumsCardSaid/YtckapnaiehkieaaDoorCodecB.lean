/-
  codec's puts and the reader, by contract.
-/
import Derived.Test.YtckapnaiehkieaaDoorCodecA
namespace Go.Proofs.YtckapnaiehkieaaDoor
open Go.RowKit

theorem put_number_no (a : Option Addr) (n cap : Nat) (v : Int) (w : World) (hv : v < 0 ∨ 1000000000 < v) :
    Calls Tryd.prog 33 #[.slice a n cap, .int .i64 v] w fun e w' => e = .returned (.tuple #[.slice none 0 0, .int .i64 1]) ∧ w = w' := by
  by_cases h0 : v < 0
  · go_enter Tryd.func33, Tryd.ntmps33
    go_wp2_with fail
    go_ret2
    exact ⟨rfl, rfl⟩
  · have h1 : 1000000000 < v := by omega
    go_enter Tryd.func33, Tryd.ntmps33
    go_wp2_with fail
    go_ret2
    exact ⟨rfl, rfl⟩

set_option maxHeartbeats 400000 in
theorem put_number_ok (a : Option Addr) (n cap : Nat) (v : Int) (xs : List Value) (B : Nat) (w : World) (hn : xs.length = n) (hr : Rd w B a xs) (hB : B ≤ w.heap.size) (h1 : ∀ v ∈ xs, v.oneCell' = true) (hle : n ≤ 4194300)
    (h0 : 0 ≤ v) (hv : v ≤ 1000000000) :
    Calls Tryd.prog 33 #[.slice a n cap, .int .i64 v] w fun e w' =>
      e = .returned (.tuple #[.slice (some ⟨w.heap.size, 0, none⟩) (n + 4) (n + 4), .int .i64 0]) ∧ w.alloc (.cells (xs ++ low v 4).toArray 5) = w' := by
  have Hn := Lib.hid hn; clear hn
  go_enter Tryd.func33, Tryd.ntmps33
  go_wp2_with fail
  refine (widen_any a cap n 4 xs B w Hn.out hr hB h1 (by omega)).mono ?_
  rintro e w' ⟨rfl, rfl⟩
  go_wp2_with fail
  refine (cut_any w.heap.size n 4 4 (xs ++ zb 4) v _ (by omega) (heap_alloc_new w _) (by simp [Hn.out])).mono ?_
  rintro e w' ⟨rfl, rfl⟩
  go_wp2_with fail
  go_ret2
  exact ⟨rfl, by rw [setRow_alloc, splice_end Hn.out (length_low _ _)]⟩

set_option maxHeartbeats 400000 in
theorem put_int_any (a : Option Addr) (n cap : Nat) (v : Int) (xs : List Value) (B : Nat) (w : World) (hn : xs.length = n) (hr : Rd w B a xs) (hB : B ≤ w.heap.size) (h1 : ∀ v ∈ xs, v.oneCell' = true) (hle : n ≤ 4194296) :
    Calls Tryd.prog 34 #[.slice a n cap, .int .i64 v] w fun e w' =>
      e = .returned (.slice (some ⟨w.heap.size, 0, none⟩) (n + 8) (n + 8)) ∧ w.alloc (.cells (xs ++ low (IntKind.u64.wrap v) 8).toArray 5) = w' := by
  have Hn := Lib.hid hn; clear hn
  go_enter Tryd.func34, Tryd.ntmps34
  go_wp2_with fail
  refine (widen_any a cap n 8 xs B w Hn.out hr hB h1 (by omega)).mono ?_
  rintro e w' ⟨rfl, rfl⟩
  go_wp2_with fail
  refine (cut_any w.heap.size n 8 8 (xs ++ zb 8) _ _ (by omega) (heap_alloc_new w _) (by simp [Hn.out])).mono ?_
  rintro e w' ⟨rfl, rfl⟩
  go_wp2_with fail
  go_ret
  exact ⟨rfl, by rw [setRow_alloc, splice_end Hn.out (length_low _ _)]⟩

end Go.Proofs.YtckapnaiehkieaaDoor
