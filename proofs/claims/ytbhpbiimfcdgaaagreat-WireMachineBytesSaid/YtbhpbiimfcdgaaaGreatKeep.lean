/-
  What the statements share: bytes lent with two marks behind them, and given back: by contract.
-/
import Derived.Test.YtbhpbiimfcdgaaaGreatCodecA
namespace Go.Proofs.YtbhpbiimfcdgaaaGreat
open Go.RowKit

theorem set_marks {bs : List UInt8} {n : Nat} (h : bs.length = n) : ((cb bs ++ zb 2).set n (.int .u8 165)).set (n + 1) (.int .u8 90) = cb (bs ++ [165, 90]) := by
  subst h
  rw [cb_append, List.set_append_right _ _ (by simp), List.set_append_right _ _ (by simp)]
  simp [zb, cb, List.replicate]

set_option maxHeartbeats 400000 in
theorem lend_any (a : Option Addr) (cap n B : Nat) (bs : List UInt8) (w : World) (hn : bs.length = n) (hr : Rd w B a (cb bs)) (hB : B ≤ w.heap.size) (hle : n ≤ 4194300) :
    Calls Tryz.prog 5 #[.slice a n cap] w fun e w' =>
      e = .returned (.slice (some ⟨w.heap.size, 0, none⟩) n (n + 2)) ∧ w.alloc (.cells (cb (bs ++ [165, 90])).toArray 5) = w' := by
  have Hn := Lib.hid hn; clear hn
  have hmk := run_make_bytes ((n : Int) + 2) (by omega) (by omega)
  rw [show ((n : Int) + 2).toNat = n + 2 from by omega] at hmk
  have hz0 : (cb bs ++ zb 2)[n]? = some (.int .u8 0) := by rw [List.getElem?_append_right (by rw [length_cb, Hn.out]; omega), length_cb, Hn.out, Nat.sub_self]; rfl
  have hz1 : (cb bs ++ zb 2)[n + 1]? = some (.int .u8 0) := by rw [List.getElem?_append_right (by rw [length_cb, Hn.out]; omega), length_cb, Hn.out, Nat.add_sub_cancel_left]; rfl
  go_enter Tryz.func5, Tryz.ntmps5
  go_wp2_with (with_reducible refine wpList_copy_rd' rfl _ _ _ _ rfl 5 Tryz.underlying22 size_byte _ _ _ _ _ _ rfl rfl w.heap.size 0 B (zb (n + 2)) 5 (heap_alloc_new w _) (cb bs) ?c1 (fun _ => rfl) (hr.alloc hB _) ?c2 (cb_one _) (w.alloc (.cells (cb bs ++ zb 2).toArray 5)) ?c3 ?_)
  case c1 => rw [length_cb, Hn.out]; show n = min n (n + 2); omega
  case c2 => simp [Hn.out]
  case c3 => rw [setRow_alloc, splice_zb (by rw [length_cb, Hn.out])]
  go_ret
  exact ⟨rfl, by rw [set_marks Hn.out]⟩

set_option maxHeartbeats 800000 in
theorem back_any (a : Option Addr) (cap n B g : Nat) (bs : List UInt8) (w : World) (hn : bs.length = n) (hr : Rd w B a (cb bs)) (_hB : B ≤ g) (hle : n ≤ 4194300)
    (hg : w.heap[g]? = some (.cells (cb (bs ++ [165, 90])).toArray 5 (0, 0))) :
    Calls Tryz.prog 7 #[.slice (some ⟨g, 0, none⟩) n (n + 2), .slice a n cap] w fun e w' =>
      e = .returned (.bool true) ∧ ∃ Y, w' = w.setRow g Y := by
  have Hn := Lib.hid hn; clear hn
  have hm0 : w.cell? ⟨g, n, none⟩ = some (.int .u8 165) := by
    rw [cell_of_row w g n _ _ _ hg]; simp [cb, Hn.out]
  have hm1 : w.cell? ⟨g, n + 1, none⟩ = some (.int .u8 90) := by
    rw [cell_of_row w g (n + 1) _ _ _ hg]; simp [cb, Hn.out]
  have hrx := Rd.row (off := 0) (n := n) hg (Nat.lt_succ_self g) (by simp [Hn.out])
  have e1 : ((cb (bs ++ [165, 90])).drop 0).take n = cb bs := by rw [List.drop_zero, cb_append, List.take_left' (by rw [length_cb, Hn.out])]
  rw [e1] at hrx
  have hcx := fun c => run_string_of (P := Tryz.prog) hrx 22 9 5 n c Hn.out Tryz.underlying22 Tryz.underlying5 Tryz.underlying9
  have hcb := fun c => run_string_of (P := Tryz.prog) hr 22 9 5 n c Hn.out Tryz.underlying22 Tryz.underlying5 Tryz.underlying9
  have HG := Lib.hid hg; clear hg
  clear e1
  go_enter Tryz.func7, Tryz.ntmps7
  go_wp2_with fail
  go_loopw [7] (fun i wr => ∃ k : Nat, k ≤ n + 2 ∧ i = .int .i64 k ∧ ∃ Y : List Value, Y.length = n + 2 ∧ (∀ v ∈ Y, ∃ z, v = .int .u8 z) ∧ wr = w.setRow g Y.toArray) (fun i _ => n + 2 - (intOf i).toNat)
  case atStart =>
    refine ⟨0, Nat.zero_le _, rfl, cb (bs ++ [165, 90]), by simp [Hn.out], ?_, (setRow_self _ _ _ _ _ HG.out).symm⟩
    intro v hv
    simp only [cb, List.mem_map] at hv
    obtain ⟨b, _, rfl⟩ := hv
    exact ⟨_, rfl⟩
  case round =>
    obtain ⟨k, hk, rfl, Y, hY, hZ, rfl⟩ := hrel
    have HR := Lib.hid (setRow_heap w g _ Y.toArray _ _ HG.out)
    have HY := Lib.hid hY; clear hY
    by_cases hlt : k < n + 2
    · have hf := frozen_of_row _ g k _ _ HR.out
      obtain ⟨z, hz⟩ := hZ (Y[k]'(by rw [HY.out]; exact hlt)) (List.getElem_mem _)
      have hc : (w.setRow g Y.toArray).cell? ⟨g, k, none⟩ = some (.int .u8 z) := by
        rw [cell_of_row _ g k _ _ _ HR.out, ← hz]; simp [HY.out, hlt]
      clear hz
      go_wp2
      go_roundw
      case rel =>
        refine ⟨k + 1, by omega, by go_num, Y.set k (.int .u8 ((z + 77) % 256)), by simp [HY.out], ?_, ?_⟩
        · intro v hv
          rcases List.mem_or_eq_of_mem_set hv with h | h
          · exact hZ v h
          · exact ⟨_, h⟩
        · rw [setCell_eq_setRow _ g k Y.toArray _ _ _ HR.out, setRow_setRow]; simp
      case measure => simp [intOf]; omega
    · go_wp2
      go_ret
      exact ⟨rfl, Y.toArray, rfl⟩
end Go.Proofs.YtbhpbiimfcdgaaaGreat
