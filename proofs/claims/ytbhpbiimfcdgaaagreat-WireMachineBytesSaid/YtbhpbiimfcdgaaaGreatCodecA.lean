/-
  codec's inner functions, by contract: widen, cut, join.
-/
import Derived.Test.YtbhpbiimfcdgaaaGreatProg
import Derived.Test.YtbhpbiimfcdgaaaGreatMem
namespace Go.Proofs.YtbhpbiimfcdgaaaGreat
open Go.RowKit

theorem info_byte : (Tryz.prog.info? 5).map (fun i => (i.zero, i.size, i.bytes)) = some (some (.int .u8 0), 1, 1) := by kernel_rfl
theorem size_byte : (Tryz.prog.info? 5).map (·.size) = some 1 := by kernel_rfl

/-- What 'make([]byte, n, n)' comes to, n up to 2 to the power of 20. -/
theorem run_make_bytes (n : Int) (h0 : 0 ≤ n) (hle : n ≤ 1048576 * 4) (u : World) : (Instr.makeSlice 22 (.int .i64 n) (.int .i64 n)).run Tryz.prog u =
    .ok (.slice (some ⟨u.heap.size, 0, none⟩) n.toNat n.toNat) (u.alloc (.cells (zb n.toNat).toArray 5)) := by
  obtain ⟨i0, hi, hz0, hz1, hz2⟩ := info_parts info_byte
  have h := run_make (P := Tryz.prog) u 22 5 i0 (.int .u8 0) Tryz.underlying22 hi hz0 .i64 .i64 n n h0 (Int.le_refl _) (by rw [hz2]; omega) (by omega)
  rw [hz1, Nat.mul_one] at h
  rw [h, ← made_zb]; rfl

set_option maxHeartbeats 400000 in
theorem widen_any (a : Option Addr) (cap n room : Nat) (xs : List Value) (B : Nat) (w : World) (hn : xs.length = n) (hr : Rd w B a xs) (hB : B ≤ w.heap.size) (h1 : ∀ v ∈ xs, v.oneCell' = true) (hle : n + room ≤ 4194304) :
    Calls Tryz.prog 91 #[.slice a n cap, .int .i64 (room : Int)] w fun e w' =>
      e = .returned (.slice (some ⟨w.heap.size, 0, none⟩) (n + room) (n + room)) ∧ w.alloc (.cells (xs ++ zb room).toArray 5) = w' := by
  have Hn := Lib.hid hn; clear hn
  have hmk := run_make_bytes ((n : Int) + (room : Int)) (by omega) (by omega)
  rw [show ((n : Int) + (room : Int)).toNat = n + room from by omega] at hmk
  go_enter Tryz.func91, Tryz.ntmps91
  go_wp2_with (with_reducible refine wpList_copy_rd rfl _ _ _ _ rfl 5 Tryz.underlying22 size_byte _ _ _ _ _ _ rfl rfl w.heap.size 0 B (zb (n + room)) 5 (heap_alloc_new w _) xs ?c1 (fun _ => rfl) (hr.alloc hB _) ?c2 h1 ?_)
  case c1 => rw [Hn.out]; show n = min n (n + room); omega
  case c2 => simp [Hn.out]
  go_ret
  exact ⟨rfl, by rw [setRow_alloc, splice_zb Hn.out]⟩

set_option maxHeartbeats 400000 in
theorem cut_any (g off n cap : Nat) (L : List Value) (v : Int) (w : World) (hn : n ≤ 8) (hg : w.heap[g]? = some (.cells L.toArray 5 (0, 0))) (hfit : off + n ≤ L.length) :
    Calls Tryz.prog 113 #[.slice (some ⟨g, off, none⟩) n cap, .int .u64 v] w fun e w' =>
      e = .returned (.tuple #[]) ∧ w.setRow g (splice L off (low v n)).toArray = w' := by
  have HG := Lib.hid hg; clear hg
  go_enter Tryz.func113, Tryz.ntmps113
  go_wp2
  go_loopw [7] (fun i wr => ∃ k : Nat, k ≤ n ∧ i = .int .i64 k ∧ wr = w.setRow g (splice L off (low v k)).toArray) (fun i _ => n - (intOf i).toNat)
  case atStart => exact ⟨0, Nat.zero_le _, rfl, by rw [show low v 0 = [] from rfl, show splice L off [] = L from by simp [splice], setRow_self _ _ _ _ _ HG.out]⟩
  case round =>
    obtain ⟨k, hk, rfl, rfl⟩ := hrel
    have HR := Lib.hid (setRow_heap w g L.toArray (splice L off (low v k)).toArray _ _ HG.out)
    by_cases hlt : k < n
    · have hf := frozen_of_row _ g (off + k) _ _ HR.out
      have hc : (w.setRow g (splice L off (low v k)).toArray).cell? ⟨g, off + k, none⟩ = some ((splice L off (low v k))[off + k]'(by rw [length_splice' (by simp; omega)]; omega)) := by
        rw [cell_of_row _ g (off + k) _ _ _ HR.out]
        simp
      go_wp2
      go_roundw
      case rel => exact ⟨k + 1, by omega, by go_num, by
        have := setCell_splice (n := off) (ys := low v k) HG.out (by simp; omega) (.int .u8 (v / 2 ^ (8 * k) % 256))
        rw [length_low] at this; rw [this, low_succ]⟩
      case measure => simp [intOf]; omega
    · obtain rfl : k = n := by omega
      go_wp2
      go_end0
      exact ⟨rfl, rfl⟩

set_option maxHeartbeats 400000 in
theorem join_any (a : Option Addr) (n cap : Nat) (bs : List UInt8) (B : Nat) (w : World) (hl : bs.length = n) (hr : Rd w B a (cb bs)) (hn : n ≤ 8) :
    Calls Tryz.prog 108 #[.slice a n cap] w fun e w' => e = .returned (.int .u64 (le bs)) ∧ w = w' := by
  have HL := Lib.hid hl; clear hl
  go_enter Tryz.func108, Tryz.ntmps108
  go_wp2
  go_loop [3, 7] (fun m i => ∃ k : Nat, k ≤ n ∧ i = .int .i64 k ∧ m = .int .u64 (le (bs.take k))) (fun _ i => n - (intOf i).toNat)
  case atStart => exact ⟨0, Nat.zero_le _, rfl, by simp [le]⟩
  case round =>
    obtain ⟨k, hk, rfl, rfl⟩ := hrel
    by_cases hlt : k < n
    · obtain ⟨b, o, rfl, _, hc⟩ := hr.pos (by rw [length_cb, HL.out]; omega)
      have hck := hc k (by rw [length_cb, HL.out]; omega)
      clear hc
      simp only [cb, List.getElem_map] at hck
      go_wp2
      go_round
      case rel => exact ⟨k + 1, by omega, by go_num, by rw [le_step bs k (by rw [HL.out]; omega) (by omega)]⟩
      case measure => simp [intOf]; omega
    · obtain rfl : k = n := by omega
      rw [List.take_of_length_le (by rw [HL.out]; omega)]
      go_wp2
      go_ret
      exact ⟨rfl, rfl⟩
end Go.Proofs.YtbhpbiimfcdgaaaGreat
