/-
  The chapter's examples, which the statements of layer 2 ask first: by contract.
-/
import Derived.Test.YtckapnaiehkieaaDoorSealF
import Derived.Test.YtckapnaiehkieaaDoorKeep
import Derived.Lib.SmallJoins
namespace Go.Proofs.YtckapnaiehkieaaDoor
open Go.RowKit

theorem sum_none : sumOf [] = 0 := by decide +kernel
theorem sum_a : sumOf [97] = 3904355907 := by decide +kernel
theorem frame_none : frameB [] = [0, 0, 0, 0, 28, 223, 68, 33] := by decide +kernel
theorem find_1 : fstE [0, 0, 0, 0, 28, 223, 68, 33, 255] = 0 ∧ fstN [0, 0, 0, 0, 28, 223, 68, 33, 255] = 8 ∧ fstV [0, 0, 0, 0, 28, 223, 68, 33, 255] = [] := by decide +kernel
theorem find_2 : fstE [1, 0, 0, 0, 0, 0, 0, 0] = 20 ∧ fstN [1, 0, 0, 0, 0, 0, 0, 0] = 0 ∧ fstV [1, 0, 0, 0, 0, 0, 0, 0] = [] := by decide +kernel
theorem find_3 : fstE [255, 255, 255, 255, 255, 255, 255, 255] = 21 ∧ fstN [255, 255, 255, 255, 255, 255, 255, 255] = 0 ∧ fstV [255, 255, 255, 255, 255, 255, 255, 255] = [] := by decide +kernel

set_option maxHeartbeats 400000 in
theorem sums_any (w : World) (hT : Tab w) : Calls Tryd.prog 13 #[] w fun e w' => e = .returned (.bool true) ∧ Below w.heap.size w w' := by
  have h0 := Lib.hid sum_none
  have h1 := Lib.hid sum_a
  have hconv := Lib.run_convert_bytes_const (P := Tryd.prog) w 22 5 #[.int .u8 97] 1 1 Tryd.underlying22 Tryd.underlying5
  have hrd := Rd.row (off := 0) (n := 1) (L := cb [97]) (heap_alloc_new w (.cells (cb [97]).toArray 5 (1, 2))) (Nat.lt_succ_self _) (by simp)
  change Rd _ _ _ (cb [97]) at hrd
  have hT1 := hT.below hT.pos ((Below.refl w.heap.size w).alloc (Nat.le_refl _) (.cells (cb [97]).toArray 5 (1, 2)))
  have HT := Lib.hid hT; have HT1 := Lib.hid hT1
  clear hT hT1
  go_enter Tryd.func13, Tryd.ntmps13
  go_wp2_with fail
  refine (sum_any none 0 0 0 [] w HT.out rfl Rd.nil (by omega)).mono ?_
  rintro e w' ⟨rfl, rfl⟩
  rw [h0.out]
  go_wp2_with fail
  refine (sum_any (some ⟨w.heap.size, 0, none⟩) 1 1 (w.heap.size + 1) [97] _ HT1.out rfl hrd (by omega)).mono ?_
  rintro e w' ⟨rfl, rfl⟩
  rw [h1.out]
  go_wp2
  go_ret
  exact ⟨rfl, (Below.refl _ _).alloc (Nat.le_refl _) _⟩

set_option maxHeartbeats 400000 in
theorem frames_any (w : World) (hT : Tab w) : Calls Tryd.prog 17 #[] w fun e w' => e = .returned (.bool true) ∧ Below w.heap.size w w' := by
  have h0 := Lib.hid frame_none
  go_enter Tryd.func17, Tryd.ntmps17
  go_wp2_with fail
  refine (frame_ok none 0 0 [] w hT rfl Rd.nil (by omega)).mono ?_
  rintro e w1 ⟨o, rfl, hown, hb⟩
  rw [h0.out] at hown
  obtain ⟨a1, c1, rfl, hr1, _⟩ := Rd.own hown
  have hcv := fun c => run_string_of (P := Tryd.prog) hr1 22 9 5 8 c rfl Tryd.underlying22 Tryd.underlying5 Tryd.underlying9
  clear hown
  go_wp2
  go_ret
  exact ⟨rfl, hb⟩

set_option maxHeartbeats 800000 in
theorem finds_any (w : World) (hT : Tab w) : Calls Tryd.prog 20 #[] w fun e w' => e = .returned (.bool true) ∧ Below w.heap.size w w' := by
  have f1 := Lib.hid find_1
  have f2 := Lib.hid find_2
  have f3 := Lib.hid find_3
  have HT := Lib.hid hT; clear hT
  go_enter Tryd.func20, Tryd.ntmps20
  go_wp2_with fail
  have b1 := (Below.refl w.heap.size w).alloc (Nat.le_refl _) (.cells (cb [0, 0, 0, 0, 28, 223, 68, 33, 255]).toArray 5)
  refine (first_any (some ⟨w.heap.size, 0, none⟩) 9 9 (w.heap.size + 1) [0, 0, 0, 0, 28, 223, 68, 33, 255] _ (HT.out.below HT.out.pos b1) rfl (Rd.new w [0, 0, 0, 0, 28, 223, 68, 33, 255] 5) (by simp) (by omega) (by omega) (by unfold maxLen; omega)).mono ?_
  rintro e w1 ⟨a1, c1, rfl, _, hb1⟩
  have bb1 := b1.trans (hb1.mono (by simp))
  clear b1 hb1
  rw [f1.out.1, f1.out.2.1, f1.out.2.2]
  go_wp2_with fail
  have b2 := (Below.refl w1.heap.size w1).alloc (Nat.le_refl _) (.cells (cb [1, 0, 0, 0, 0, 0, 0, 0]).toArray 5)
  refine (first_any (some ⟨w1.heap.size, 0, none⟩) 8 8 (w1.heap.size + 1) [1, 0, 0, 0, 0, 0, 0, 0] _ (HT.out.below HT.out.pos (bb1.trans (b2.mono bb1.size))) rfl (Rd.new w1 [1, 0, 0, 0, 0, 0, 0, 0] 5) (by simp) (by omega) (by omega) (by unfold maxLen; omega)).mono ?_
  rintro e w2 ⟨a2, c2, rfl, _, hb2⟩
  have bb2 := bb1.trans ((b2.trans (hb2.mono (by simp))).mono bb1.size)
  clear b2 hb2 bb1
  rw [f2.out.1, f2.out.2.1, f2.out.2.2]
  go_wp2_with fail
  have b3 := (Below.refl w2.heap.size w2).alloc (Nat.le_refl _) (.cells (cb [255, 255, 255, 255, 255, 255, 255, 255]).toArray 5)
  refine (first_any (some ⟨w2.heap.size, 0, none⟩) 8 8 (w2.heap.size + 1) [255, 255, 255, 255, 255, 255, 255, 255] _ (HT.out.below HT.out.pos (bb2.trans (b3.mono bb2.size))) rfl (Rd.new w2 [255, 255, 255, 255, 255, 255, 255, 255] 5) (by simp) (by omega) (by omega) (by unfold maxLen; omega)).mono ?_
  rintro e w3 ⟨a3, c3, rfl, _, hb3⟩
  have bb3 := bb2.trans ((b3.trans (hb3.mono (by simp))).mono bb2.size)
  clear b3 hb3 bb2
  rw [f3.out.1, f3.out.2.1, f3.out.2.2]
  go_wp2
  go_ret
  exact ⟨rfl, bb3⟩
end Go.Proofs.YtckapnaiehkieaaDoor
