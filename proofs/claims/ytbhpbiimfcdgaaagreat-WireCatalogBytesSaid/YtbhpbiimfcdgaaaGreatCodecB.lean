/-
  codec's puts and the reader, by contract.
-/
import Derived.Test.YtbhpbiimfcdgaaaGreatCodecA
namespace Go.Proofs.YtbhpbiimfcdgaaaGreat
open Go.RowKit

theorem put_number_no (a : Option Addr) (n cap : Nat) (v : Int) (w : World) (hv : v < 0 ∨ 1000000000 < v) :
    Calls Tryz.prog 101 #[.slice a n cap, .int .i64 v] w fun e w' => e = .returned (.tuple #[.slice none 0 0, .int .i64 1]) ∧ w = w' := by
  by_cases h0 : v < 0
  · go_enter Tryz.func101, Tryz.ntmps101
    go_wp2_with fail
    go_ret2
    exact ⟨rfl, rfl⟩
  · have h1 : 1000000000 < v := by omega
    go_enter Tryz.func101, Tryz.ntmps101
    go_wp2_with fail
    go_ret2
    exact ⟨rfl, rfl⟩

set_option maxHeartbeats 400000 in
theorem put_number_ok (a : Option Addr) (n cap : Nat) (v : Int) (xs : List Value) (B : Nat) (w : World) (hn : xs.length = n) (hr : Rd w B a xs) (hB : B ≤ w.heap.size) (h1 : ∀ v ∈ xs, v.oneCell' = true) (hle : n ≤ 4194300)
    (h0 : 0 ≤ v) (hv : v ≤ 1000000000) :
    Calls Tryz.prog 101 #[.slice a n cap, .int .i64 v] w fun e w' =>
      e = .returned (.tuple #[.slice (some ⟨w.heap.size, 0, none⟩) (n + 4) (n + 4), .int .i64 0]) ∧ w.alloc (.cells (xs ++ low v 4).toArray 5) = w' := by
  have Hn := Lib.hid hn; clear hn
  go_enter Tryz.func101, Tryz.ntmps101
  go_wp2_with fail
  refine (widen_any a cap n 4 xs B w Hn.out hr hB h1 (by omega)).mono ?_
  rintro e w' ⟨rfl, rfl⟩
  go_wp2_with fail
  refine (cut_any w.heap.size n 4 4 (xs ++ zb 4) v _ (by omega) (heap_alloc_new w _) (by simp [Hn.out])).mono ?_
  rintro e w' ⟨rfl, rfl⟩
  go_wp2_with fail
  go_ret2
  exact ⟨rfl, by rw [setRow_alloc, splice_end Hn.out (length_low _ _)]⟩

set_option maxHeartbeats 400000 in
theorem put_int_any (a : Option Addr) (n cap : Nat) (v : Int) (xs : List Value) (B : Nat) (w : World) (hn : xs.length = n) (hr : Rd w B a xs) (hB : B ≤ w.heap.size) (h1 : ∀ v ∈ xs, v.oneCell' = true) (hle : n ≤ 4194296) :
    Calls Tryz.prog 120 #[.slice a n cap, .int .i64 v] w fun e w' =>
      e = .returned (.slice (some ⟨w.heap.size, 0, none⟩) (n + 8) (n + 8)) ∧ w.alloc (.cells (xs ++ low (IntKind.u64.wrap v) 8).toArray 5) = w' := by
  have Hn := Lib.hid hn; clear hn
  go_enter Tryz.func120, Tryz.ntmps120
  go_wp2_with fail
  refine (widen_any a cap n 8 xs B w Hn.out hr hB h1 (by omega)).mono ?_
  rintro e w' ⟨rfl, rfl⟩
  go_wp2_with fail
  refine (cut_any w.heap.size n 8 8 (xs ++ zb 8) _ _ (by omega) (heap_alloc_new w _) (by simp [Hn.out])).mono ?_
  rintro e w' ⟨rfl, rfl⟩
  go_wp2_with fail
  go_ret
  exact ⟨rfl, by rw [setRow_alloc, splice_end Hn.out (length_low _ _)]⟩

theorem put_text_no (a : Option Addr) (n cap : Nat) (s : ByteArray) (w : World) (hs : s.size ≤ maxLen) (hv : 65536 < s.size) :
    Calls Tryz.prog 114 #[.slice a n cap, .string s] w fun e w' => e = .returned (.tuple #[.slice none 0 0, .int .i64 2]) ∧ w = w' := by
  unfold maxLen at hs
  go_enter Tryz.func114, Tryz.ntmps114
  go_wp2_with fail
  go_ret2
  exact ⟨rfl, rfl⟩

set_option maxHeartbeats 400000 in
theorem put_text_ok (a : Option Addr) (n cap : Nat) (s : ByteArray) (xs : List Value) (B : Nat) (w : World) (hn : xs.length = n) (hr : Rd w B a xs) (hB : B ≤ w.heap.size) (h1 : ∀ v ∈ xs, v.oneCell' = true) (hle : n ≤ 1048576)
    (hv : s.size ≤ 65536) :
    Calls Tryz.prog 114 #[.slice a n cap, .string s] w fun e w' =>
      e = .returned (.tuple #[.slice (some ⟨w.heap.size, 0, none⟩) (n + 4 + s.size) (n + 4 + s.size), .int .i64 0]) ∧ w.alloc (.cells (xs ++ low s.size 4 ++ cb s.data.toList).toArray 5) = w' := by
  have Hn := Lib.hid hn; clear hn
  go_enter Tryz.func114, Tryz.ntmps114
  go_wp2_with fail
  rw [show (4 + (s.size : Int)) = ((4 + s.size : Nat) : Int) from by omega]
  refine (widen_any a cap n (4 + s.size) xs B w Hn.out hr hB h1 (by omega)).mono ?_
  rintro e w' ⟨rfl, rfl⟩
  go_wp2_with fail
  refine (cut_any w.heap.size n 4 (4 + s.size) (xs ++ zb (4 + s.size)) _ _ (by omega) (heap_alloc_new w _) (by simp [Hn.out])).mono ?_
  rintro e w' ⟨rfl, rfl⟩
  rw [setRow_alloc]
  generalize hL : splice (xs ++ zb (4 + s.size)) n (low s.size 4) = L
  have HL := Lib.hid hL; clear hL
  have hLl : L.length = n + (4 + s.size) := by rw [← HL.out, length_splice' (by simp [Hn.out]), List.length_append, Hn.out, length_zb]
  have HLl := Lib.hid hLl; clear hLl
  have hsz : s.size = s.data.toList.length := by rw [Array.length_toList]; rfl
  have Hsz := Lib.hid hsz; clear hsz
  go_wp2_with (with_reducible refine wpList_copy_str rfl _ _ _ _ rfl 5 Tryz.underlying22 size_byte _ _ _ s rfl rfl w.heap.size (n + 4) L 5 (heap_alloc_new w _) ?c1 ?c2 ?c3 ?_)
  case c1 => omega
  case c2.inl =>
    rename_i h
    exact ByteArray.size_eq_zero_iff.1 (by omega)
  case c2.inr =>
    intro h0 he
    subst he
    simp at h0
  case c3 => rw [HLl.out]; omega
  case inl =>
    rename_i h
    subst h
    go_ret2
    exact ⟨rfl, by rw [setRow_alloc, ← HL.out]; exact congrArg (fun L : List Value => w.alloc (.cells L.toArray 5)) (splice_two (m := 0) Hn.out (length_low _ _) rfl).symm⟩
  case inr =>
    go_ret2
    refine ⟨?_, ?_⟩
    · show Ending.returned (.tuple #[.slice _ (n + (4 + s.size)) (n + (4 + s.size)), .int .i64 0]) = _
      rw [Nat.add_assoc]
    · rw [setRow_alloc, ← HL.out, splice_two Hn.out (length_low _ _) (by rw [length_cb, Hsz.out])]
end Go.Proofs.YtbhpbiimfcdgaaaGreat
