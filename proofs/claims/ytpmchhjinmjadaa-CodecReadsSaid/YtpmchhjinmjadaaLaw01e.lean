/-
  Layer 1's statements, walked: bytes are read from the front.
-/
import Derived.Test.YtpmchhjinmjadaaLaw01b
import Derived.Test.YtpmchhjinmjadaaRefCut
import Derived.Test.YtpmchhjinmjadaaFrame
namespace Go.Proofs.Ytpmchhjinmjadaa
open Go.RowKit

/-- What holds at each round's head: both readers stand at place p; what was lent lies as it was. -/
structure Both (w wr : World) (bs : List UInt8) (p : Nat) : Prop where
  rd : IsR wr (w.heap.size + 2) (w.heap.size + 2) (bs.drop p)
  cut : IsC wr (w.heap.size + 3) w.heap.size bs p
  lent : wr.heap[w.heap.size]? = some (.cells (cb (bs ++ [165, 90])).toArray 5 (0, 0))
  below : Below w.heap.size w wr

theorem Both.drewN {w wr : World} {bs : List UInt8} {p : Nat} (h : Both w wr bs p) (n : Nat) : Both w (wr.drewN n) bs p :=
  ⟨h.rd.keep rfl fun _ _ => rfl, h.cut.drewN n, h.lent, h.below.trans ⟨rfl, rfl, rfl, Nat.le_refl _, fun _ _ => rfl⟩⟩

/-- Both readers have taken k bytes. -/
theorem Both.step {w wr w1 w2 : World} {bs : List UInt8} {p k : Nat} (h : Both w wr bs p) (h1 : IsR w1 (w.heap.size + 2) (w.heap.size + 2) ((bs.drop p).drop k)) (g1 : wr.grownBy w1 (some (w.heap.size + 2)))
    (h2 : IsC w2 (w.heap.size + 3) w.heap.size bs (p + k)) (g2 : w1.grownBy w2 (some (w.heap.size + 3))) : Both w w2 bs (p + k) := by
  have hlt := h.cut.lt
  have hs := g1.size
  refine ⟨?_, h2, ?_, below_row (below_row h.below g1 (by omega) (Nat.le_refl _)) g2 (by omega) (Nat.le_refl _)⟩
  · rw [← List.drop_drop]
    exact h1.grown g2 (fun j hj => by simp only [Option.some.injEq] at hj; omega)
  · exact (g2.block _ (by omega) (by simp)).trans ((g1.block _ (by omega) (by simp)).trans h.lent)

theorem Both.cut1 {w wr w1 : World} {bs : List UInt8} {p : Nat} (h : Both w wr bs p) (g1 : wr.grownBy w1 (some (w.heap.size + 2))) : IsC w1 (w.heap.size + 3) w.heap.size bs p :=
  h.cut.grown g1 (fun j hj => by simp only [Option.some.injEq] at hj; omega)

set_option maxRecDepth 100000 in
set_option maxHeartbeats 4000000 in
theorem walk_reads (a : Option Addr) (n cap : Nat) (bs : List UInt8) (a1 : Option Addr) (n1 cap1 : Nat) (zs : List Int) (w : World) (hl : bs.length = n) (hr : Rd w w.heap.size a (cb bs)) (hcap : n ≤ cap) (hmax : cap ≤ maxLen)
    (hl1 : zs.length = n1) (hr1 : Rd w w.heap.size a1 (ci zs)) :
    Calls Try.prog 6 #[.slice a n cap, .slice a1 n1 cap1] w fun e w' => e = .returned (.bool true) ∧ Below w.heap.size w w' := by
  have HL := Lib.hid hl; clear hl
  have HL1 := Lib.hid hl1; clear hl1
  by_cases hlong : 262144 < n
  · go_enter Try.func6, Try.ntmps6
    go_wp2_with fail
    go_ret
    exact ⟨rfl, Below.refl _ _⟩
  · by_cases hklong : 1000 < n1
    · go_enter Try.func6, Try.ntmps6
      go_wp2_with fail
      go_ret
      exact ⟨rfl, Below.refl _ _⟩
    · go_enter Try.func6, Try.ntmps6
      go_wp2_with fail
      refine (lend_any a cap n _ bs w HL.out hr (Nat.le_refl _) (by omega)).mono ?_
      rintro e w' ⟨rfl, rfl⟩
      go_wp2_with fail
      refine (new_any (some ⟨w.heap.size, 0, none⟩) n (n + 2) (w.heap.size + 1) bs _ HL.out (lent_rd w bs HL.out) (by simp) (by omega)).mono ?_
      rintro e w2 ⟨rfl, hR2, hb2, hz2⟩
      rw [show (w.alloc (.cells (cb (bs ++ [165, 90])).toArray 5)).heap.size = w.heap.size + 1 from by simp] at *
      have hz2' : w2.heap.size = w.heap.size + 3 := by omega
      have HZ2 := Lib.hid hz2'; clear hz2 hz2'
      go_wp2_with fail
      have hB0 : Both w (w2.alloc (.cells #[.slice a n cap, .int .i64 0] 42)) bs 0 := by
        have hbw2 : Below w.heap.size w w2 := ((Below.refl _ _).alloc (Nat.le_refl _) _).trans (hb2.mono (by omega))
        have hbw3 := hbw2.alloc hbw2.size (.cells #[.slice a n cap, .int .i64 0] 42)
        refine ⟨?_, ⟨by omega, Nat.zero_le _, a, cap, ?_, hr.below hbw3 (Nat.le_refl _), by rw [HL.out]; exact hcap, hmax⟩, ?_, hbw3⟩
        · rw [List.drop_zero]
          exact hR2.keep (heap_alloc_old w2 _ (by rw [HZ2.out]; omega)) (fun k hk => heap_alloc_old w2 _ (by rw [HZ2.out]; omega))
        · rw [← HZ2.out, HL.out]
          exact heap_alloc_new w2 _
        · rw [heap_alloc_old w2 _ (by rw [HZ2.out]; omega), hb2.block _ (by omega)]
          exact heap_alloc_new w _
      rw [HZ2.out]
      clear hb2 hR2
      generalize World.alloc w2 _ = w3 at *
      clear HZ2 w2
      go_loopw [8] (fun i wr => ∃ j : Nat, j ≤ n1 ∧ i = .int .i64 j ∧ ∃ p, Both w wr bs p) (fun i _ => n1 - (intOf i).toNat)
      case atStart => exact ⟨0, Nat.zero_le _, rfl, 0, hB0⟩
      case round =>
        obtain ⟨j, hj, rfl, p, hB⟩ := hrel
        clear hB0 w3
        have hp := hB.cut.2.1
        have el : (((bs.drop p).length : Nat) : Int) = (bs.length : Int) - (p : Int) := by rw [List.length_drop]; omega
        have EL := Lib.hid el; clear el
        by_cases hlt : j < n1
        · obtain ⟨b1, o1, rfl, _, hcz⟩ := (hr1.below hB.below (Nat.le_refl _)).pos (by rw [length_ci, HL1.out]; omega)
          have hcj := hcz j (by rw [length_ci, HL1.out]; omega)
          simp only [ci, List.getElem_map] at hcj
          clear hcz
          generalize (zs[j]'(by rw [HL1.out]; omega)) = z at *
          by_cases h1 : z = 1
          · have hz1 : (z == 1) = true := by simp [h1]
            have H1 := Lib.hid h1; clear h1
            go_wp2_with fail
            refine (left_any _ _ _ _ hB.rd).mono ?_
            rintro e w4 ⟨rfl, rfl⟩
            rw [EL.out]
            go_wp2_with fail
            refine (cut_left _ _ _ _ _ hB.cut).mono ?_
            rintro e w5 ⟨rfl, q, rfl⟩
            have hB5 := hB.drewN q
            have hcj5 : (wr.drewN q).cell? ⟨b1, o1 + j, none⟩ = some (.int .i64 z) := hcj
            generalize World.drewN _ q = w5 at *
            go_wp2_with fail
            refine (number_any _ _ _ _ hB5.rd).mono ?_
            rintro e w6 ⟨rfl, hR6, hg6⟩
            go_wp2_with fail
            refine (cut_number _ _ _ _ _ (hB5.cut1 hg6)).mono ?_
            rintro e w7 ⟨rfl, hC7, hg7⟩
            have hB7 := hB5.step hR6 hg6 hC7 hg7
            clear hR6 hg6 hC7 hg7 hB5 hB
            go_wp2
            go_roundw
            case rel => exact ⟨j + 1, by omega, by go_num, _, hB7⟩
            case measure => simp [intOf]; omega
          · have hz1 : (z == 1) = false := by simp [h1]
            have H1 := Lib.hid h1; clear h1
            by_cases h2 : z = 2
            · have hz2 : (z == 2) = true := by simp [h2]
              have H2 := Lib.hid h2; clear h2
              go_wp2_with fail
              refine (left_any _ _ _ _ hB.rd).mono ?_
              rintro e w4 ⟨rfl, rfl⟩
              rw [EL.out]
              go_wp2_with fail
              refine (cut_left _ _ _ _ _ hB.cut).mono ?_
              rintro e w5 ⟨rfl, q, rfl⟩
              have hB5 := hB.drewN q
              have hcj5 : (wr.drewN q).cell? ⟨b1, o1 + j, none⟩ = some (.int .i64 z) := hcj
              generalize World.drewN _ q = w5 at *
              go_wp2_with fail
              refine (int_any _ _ _ _ hB5.rd).mono ?_
              rintro e w6 ⟨rfl, hR6, hg6⟩
              go_wp2_with fail
              refine (cut_int _ _ _ _ _ (hB5.cut1 hg6)).mono ?_
              rintro e w7 ⟨rfl, hC7, hg7⟩
              have hB7 := hB5.step hR6 hg6 hC7 hg7
              clear hR6 hg6 hC7 hg7 hB5 hB
              go_wp2
              go_roundw
              case rel => exact ⟨j + 1, by omega, by go_num, _, hB7⟩
              case measure => simp [intOf]; omega
            · have hz2 : (z == 2) = false := by simp [h2]
              have H2 := Lib.hid h2; clear h2
              go_wp2_with fail
              refine (left_any _ _ _ _ hB.rd).mono ?_
              rintro e w4 ⟨rfl, rfl⟩
              rw [EL.out]
              go_wp2_with fail
              refine (cut_left _ _ _ _ _ hB.cut).mono ?_
              rintro e w5 ⟨rfl, q, rfl⟩
              have hB5 := hB.drewN q
              have hcj5 : (wr.drewN q).cell? ⟨b1, o1 + j, none⟩ = some (.int .i64 z) := hcj
              generalize World.drewN _ q = w5 at *
              go_wp2_with fail
              refine (text_any _ _ _ _ hB5.rd).mono ?_
              rintro e w6 ⟨rfl, hR6, hg6⟩
              go_wp2_with fail
              refine (cut_text _ _ _ _ _ (hB5.cut1 hg6)).mono ?_
              rintro e w7 ⟨rfl, hC7, hg7⟩
              have hB7 := hB5.step hR6 hg6 hC7 hg7
              clear hR6 hg6 hC7 hg7 hB5 hB
              go_wp2
              go_roundw
              case rel => exact ⟨j + 1, by omega, by go_num, _, hB7⟩
              case measure => simp [intOf]; omega
        · obtain rfl : j = n1 := by omega
          go_wp2_with fail
          refine (left_any _ _ _ _ hB.rd).mono ?_
          rintro e w4 ⟨rfl, rfl⟩
          rw [EL.out]
          go_wp2_with fail
          refine (cut_left _ _ _ _ _ hB.cut).mono ?_
          rintro e w5 ⟨rfl, q, rfl⟩
          have hB5 := hB.drewN q
          generalize World.drewN _ q = w5 at *
          go_wp2_with fail
          refine (back_any a cap n w.heap.size w.heap.size bs _ HL.out (hr.below hB5.below (Nat.le_refl _)) (Nat.le_refl _) (by omega) hB5.lent).mono ?_
          rintro e w6 ⟨rfl, Y, rfl⟩
          have hb6 := below_setRow hB5.below (Nat.le_refl _) Y
          generalize World.setRow _ _ Y = w6 at *
          go_wp2_with fail
          refine (reads_any _).mono ?_
          rintro e w7 ⟨rfl, hb7⟩
          go_wp2
          go_ret
          exact ⟨rfl, hb6.trans (hb7.mono hb6.size)⟩
end Go.Proofs.Ytpmchhjinmjadaa
