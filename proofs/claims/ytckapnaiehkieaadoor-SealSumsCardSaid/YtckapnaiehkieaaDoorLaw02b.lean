/-
  Layer 2's statements, walked: sums, frames, the first frame, all frames.
-/
import Derived.Test.YtckapnaiehkieaaDoorLaw02a
import Derived.Test.YtckapnaiehkieaaDoorLaw01b
namespace Go.Proofs.YtckapnaiehkieaaDoor
open Go.RowKit

/-- The world in which what was lent has been given back: what is still known of it. -/
structure Back (w w2 w3 : World) (a : Option Addr) (bs : List UInt8) : Prop where
  below : Below w.heap.size w w3
  size : w3.heap.size = w2.heap.size
  more : w.heap.size + 1 ≤ w3.heap.size
  old : Rd w3 w.heap.size a (cb bs)
  cells : ∀ p : Addr, p.block ≠ w.heap.size → w3.cell? p = w2.cell? p

theorem back_of {w w2 : World} {a : Option Addr} {bs : List UInt8} (hr : Rd w w.heap.size a (cb bs)) (A : Array Value) (hb : Below (w.heap.size + 1) (w.alloc (.cells A 5)) w2) (Y : Array Value) : Back w w2 (w2.setRow w.heap.size Y) a bs := by
  have hb0 : Below w.heap.size w w2 := ((Below.refl _ _).alloc (Nat.le_refl _) _).trans (hb.mono (by omega))
  have hb3 : Below w.heap.size w (w2.setRow w.heap.size Y) := below_setRow hb0 (Nat.le_refl _) _
  have hz : (w2.setRow w.heap.size Y).heap.size = w2.heap.size := by simp
  have := hb.size
  simp at this
  exact ⟨hb3, hz, by omega, hr.below hb3 (Nat.le_refl _), fun p hp => World.cell?_of_block (setRow_other _ _ _ _ (by omega))⟩

theorem lent_at {w w2 : World} {bs : List UInt8} (hb : Below (w.heap.size + 1) (w.alloc (.cells (cb (bs ++ [165, 90])).toArray 5)) w2) : w2.heap[w.heap.size]? = some (.cells (cb (bs ++ [165, 90])).toArray 5 (0, 0)) :=
  (hb.block _ (by omega)).trans (heap_alloc_new w _)

set_option maxHeartbeats 1000000 in
theorem walk_sums (a : Option Addr) (n cap : Nat) (bs : List UInt8) (w : World) (hT : Tab w) (hl : bs.length = n) (hr : Rd w w.heap.size a (cb bs)) :
    Calls Tryd.prog 3 #[.slice a n cap] w fun e w' => e = .returned (.bool true) ∧ Below w.heap.size w w' := by
  have HL := Lib.hid hl; clear hl
  by_cases hlong : 2097152 < n
  · go_enter Tryd.func3, Tryd.ntmps3
    go_wp2_with fail
    go_ret
    exact ⟨rfl, Below.refl _ _⟩
  · have HT := Lib.hid hT; clear hT
    have b1 := (Below.refl w.heap.size w).alloc (Nat.le_refl _) (.cells (cb (bs ++ [165, 90])).toArray 5)
    go_enter Tryd.func3, Tryd.ntmps3
    go_wp2_with fail
    refine (lend_any a cap n _ bs w HL.out hr (Nat.le_refl _) (by omega)).mono ?_
    rintro e w' ⟨rfl, rfl⟩
    go_wp2_with fail
    refine (sum_any _ n _ _ bs _ (HT.out.below HT.out.pos b1) HL.out (lent_rd w bs HL.out) (by omega)).mono ?_
    rintro e w' ⟨rfl, rfl⟩
    go_wp2_with fail
    refine (back_any a cap n w.heap.size w.heap.size bs _ HL.out (hr.alloc (Nat.le_refl _) _) (Nat.le_refl _) (by omega) (heap_alloc_new w _)).mono ?_
    rintro e w' ⟨rfl, Y, rfl⟩
    obtain ⟨hb3, hz3, hm3, hr3, _⟩ := back_of hr (cb (bs ++ [165, 90])).toArray (Below.refl _ _) Y
    generalize World.setRow _ _ Y = w3 at *
    go_wp2_with fail
    refine (sums_any _ (HT.out.below HT.out.pos hb3)).mono ?_
    rintro e w4 ⟨rfl, hb4⟩
    go_wp2_with fail
    refine (ref_sum_any a n cap _ bs _ HL.out (hr3.below hb4 hb3.size) (by omega)).mono ?_
    rintro e w5 ⟨rfl, rfl⟩
    go_wp2
    go_ret
    exact ⟨rfl, hb3.trans (hb4.mono hb3.size)⟩

set_option maxHeartbeats 1000000 in
theorem walk_frames (a : Option Addr) (n cap : Nat) (bs : List UInt8) (w : World) (hT : Tab w) (hl : bs.length = n) (hr : Rd w w.heap.size a (cb bs)) (hcap : n ≤ cap) (hm : cap ≤ maxLen) :
    Calls Tryd.prog 4 #[.slice a n cap] w fun e w' => e = .returned (.bool true) ∧ Below w.heap.size w w' := by
  have hnm : n ≤ maxLen := Nat.le_trans hcap hm
  have HNM := Lib.hid hnm
  unfold maxLen at hnm hm
  have HL := Lib.hid hl; clear hl
  have HT := Lib.hid hT; clear hT
  have b1 := (Below.refl w.heap.size w).alloc (Nat.le_refl _) (.cells (cb (bs ++ [165, 90])).toArray 5)
  by_cases hlong : 2097152 < n
  · go_enter Tryd.func4, Tryd.ntmps4
    go_wp2_with fail
    go_ret
    exact ⟨rfl, Below.refl _ _⟩
  · by_cases hbig : 1048576 < n
    · go_enter Tryd.func4, Tryd.ntmps4
      go_wp2_with fail
      refine (lend_any a cap n _ bs w HL.out hr (Nat.le_refl _) (by omega)).mono ?_
      rintro e w' ⟨rfl, rfl⟩
      go_wp2_with fail
      refine (frame_no _ n _ _ hbig HNM.out).mono ?_
      rintro e w' ⟨rfl, rfl⟩
      go_wp2_with fail
      refine (back_any a cap n w.heap.size w.heap.size bs _ HL.out (hr.alloc (Nat.le_refl _) _) (Nat.le_refl _) (by omega) (heap_alloc_new w _)).mono ?_
      rintro e w' ⟨rfl, Y, rfl⟩
      obtain ⟨hb3, hz3, hm3, hr3, _⟩ := back_of hr (cb (bs ++ [165, 90])).toArray (Below.refl _ _) Y
      generalize World.setRow _ _ Y = w3 at *
      go_wp2_with fail
      refine (ref_frame_no a n cap _ hbig HNM.out).mono ?_
      rintro e w' ⟨rfl, rfl⟩
      go_wp2_with fail
      refine (frames_any _ (HT.out.below HT.out.pos hb3)).mono ?_
      rintro e w4 ⟨rfl, hb4⟩
      have hcv0 := run_string_of (P := Tryd.prog) (w := w4) (B := 0) (a := none) (bs := []) Rd.nil 22 9 5 0 0 rfl Tryd.underlying22 Tryd.underlying5 Tryd.underlying9
      go_wp2
      go_ret
      exact ⟨rfl, hb3.trans (hb4.mono hb3.size)⟩
    · have hfl : (frameB bs).length = 8 + n := by rw [length_frameB, HL.out]
      have HFL := Lib.hid hfl; clear hfl
      go_enter Tryd.func4, Tryd.ntmps4
      go_wp2_with fail
      refine (lend_any a cap n _ bs w HL.out hr (Nat.le_refl _) (by omega)).mono ?_
      rintro e w' ⟨rfl, rfl⟩
      go_wp2_with fail
      refine (frame_ok _ n _ bs _ (HT.out.below HT.out.pos b1) HL.out ((lent_rd w bs HL.out).more (by simp)) (by omega)).mono ?_
      rintro e w2 ⟨o2, rfl, hown2, hb2⟩
      rw [World.size_alloc] at hown2 hb2
      obtain ⟨a2, c2, rfl, hr2, _⟩ := RdS.own hown2
      go_wp2_with fail
      refine (back_any a cap n w.heap.size w.heap.size bs w2 HL.out ((hr.alloc (Nat.le_refl _) _).below hb2 (by omega)) (Nat.le_refl _) (by omega) (lent_at hb2)).mono ?_
      rintro e w' ⟨rfl, Y, rfl⟩
      obtain ⟨hb3, hz3, hm3, hr3, hc3⟩ := back_of hr (cb (bs ++ [165, 90])).toArray hb2 Y
      generalize World.setRow _ _ Y = w3 at *
      have hn3 : Rd w3 w3.heap.size a2 (cb (frameB bs)) := (hr2.keep (S' := (· < w3.heap.size)) (fun b h => by omega) (fun p h => hc3 p (by omega)))
      have HZ3 := Lib.hid hz3; clear hz3 hc3 hown2 hr2
      go_wp2_with fail
      refine (ref_frame_ok a n cap bs w3 HL.out (hr3.more hb3.size) (by omega)).mono ?_
      rintro e w4 ⟨o4, rfl, hown4, hb4⟩
      obtain ⟨a4, c4, rfl, hr4, _⟩ := Rd.own hown4
      have hb34 := hb3.trans (hb4.mono hb3.size)
      go_wp2_with fail
      refine (frames_any _ (HT.out.below HT.out.pos hb34)).mono ?_
      rintro e w5 ⟨rfl, hb5⟩
      have hcv1 := fun c => run_string_of (P := Tryd.prog) ((hn3.below hb4 (Nat.le_refl _)).below hb5 hb4.size) 22 9 5 (8 + n) c HFL.out Tryd.underlying22 Tryd.underlying5 Tryd.underlying9
      have hcv2 := fun c => run_string_of (P := Tryd.prog) (hr4.below hb5 (Nat.le_refl _)) 22 9 5 (8 + n) c HFL.out Tryd.underlying22 Tryd.underlying5 Tryd.underlying9
      clear hown4
      go_wp2
      go_ret
      exact ⟨rfl, hb34.trans (hb5.mono hb34.size)⟩

set_option maxHeartbeats 1000000 in
theorem walk_first (a : Option Addr) (n cap : Nat) (bs : List UInt8) (w : World) (hT : Tab w) (hl : bs.length = n) (hr : Rd w w.heap.size a (cb bs)) (hcap : n ≤ cap) (hm : cap ≤ maxLen) :
    Calls Tryd.prog 5 #[.slice a n cap] w fun e w' => e = .returned (.bool true) ∧ Below w.heap.size w w' := by
  have HM := Lib.hid hm
  unfold maxLen at hm
  have HL := Lib.hid hl; clear hl
  have HT := Lib.hid hT; clear hT
  have b1 := (Below.refl w.heap.size w).alloc (Nat.le_refl _) (.cells (cb (bs ++ [165, 90])).toArray 5)
  by_cases hlong : 2097152 < n
  · go_enter Tryd.func5, Tryd.ntmps5
    go_wp2_with fail
    go_ret
    exact ⟨rfl, Below.refl _ _⟩
  · go_enter Tryd.func5, Tryd.ntmps5
    go_wp2_with fail
    refine (lend_any a cap n _ bs w HL.out hr (Nat.le_refl _) (by omega)).mono ?_
    rintro e w' ⟨rfl, rfl⟩
    go_wp2_with fail
    refine (first_any _ n _ _ bs _ (HT.out.below HT.out.pos b1) HL.out (lent_rd w bs HL.out) (by simp) (by omega) (by omega) (by unfold maxLen; omega)).mono ?_
    rintro e w2 ⟨a2, c2, rfl, hr2, hb2⟩
    rw [World.size_alloc] at hr2 hb2
    go_wp2_with fail
    refine (back_any a cap n w.heap.size w.heap.size bs w2 HL.out ((hr.alloc (Nat.le_refl _) _).below hb2 (by omega)) (Nat.le_refl _) (by omega) (lent_at hb2)).mono ?_
    rintro e w' ⟨rfl, Y, rfl⟩
    obtain ⟨hb3, hz3, hm3, hr3, hc3⟩ := back_of hr (cb (bs ++ [165, 90])).toArray hb2 Y
    generalize World.setRow _ _ Y = w3 at *
    have hn3 : Rd w3 w3.heap.size a2 (cb (fstV bs)) := (hr2.keep (S' := (· < w3.heap.size)) (fun b h => by omega) (fun p h => hc3 p (by omega)))
    have HZ3 := Lib.hid hz3; clear hz3 hc3 hr2
    go_wp2_with fail
    refine (ref_first_any a n cap _ bs w3 HL.out hr3 hb3.size (by omega) hcap HM.out).mono ?_
    rintro e w4 ⟨a4, c4, rfl, hr4, hb4⟩
    have hb34 := hb3.trans (hb4.mono hb3.size)
    go_wp2_with fail
    refine (finds_any _ (HT.out.below HT.out.pos hb34)).mono ?_
    rintro e w5 ⟨rfl, hb5⟩
    have hcv1 := fun c => run_string_of (P := Tryd.prog) ((hn3.below hb4 (Nat.le_refl _)).below hb5 hb4.size) 22 9 5 _ c rfl Tryd.underlying22 Tryd.underlying5 Tryd.underlying9
    have hcv2 := fun c => run_string_of (P := Tryd.prog) (hr4.below hb5 hb34.size) 22 9 5 _ c rfl Tryd.underlying22 Tryd.underlying5 Tryd.underlying9
    generalize fstV bs = v at *
    generalize fstE bs = ee at *
    generalize fstN bs = nn at *
    generalize v.length = vl at *
    go_wp2
    go_ret
    exact ⟨rfl, hb34.trans (hb5.mono hb34.size)⟩

set_option maxHeartbeats 1000000 in
theorem walk_all (a : Option Addr) (n cap : Nat) (bs : List UInt8) (w : World) (hT : Tab w) (hl : bs.length = n) (hr : Rd w w.heap.size a (cb bs)) (hcap : n ≤ cap) (hm : cap ≤ maxLen) :
    Calls Tryd.prog 6 #[.slice a n cap] w fun e w' => e = .returned (.bool true) ∧ Below w.heap.size w w' := by
  have HM := Lib.hid hm
  unfold maxLen at hm
  have HL := Lib.hid hl; clear hl
  have HT := Lib.hid hT; clear hT
  have b1 := (Below.refl w.heap.size w).alloc (Nat.le_refl _) (.cells (cb (bs ++ [165, 90])).toArray 5)
  by_cases hlong : 2097152 < n
  · go_enter Tryd.func6, Tryd.ntmps6
    go_wp2_with fail
    go_ret
    exact ⟨rfl, Below.refl _ _⟩
  · go_enter Tryd.func6, Tryd.ntmps6
    go_wp2_with fail
    refine (lend_any a cap n _ bs w HL.out hr (Nat.le_refl _) (by omega)).mono ?_
    rintro e w' ⟨rfl, rfl⟩
    go_wp2_with fail
    refine (all_any _ n _ bs _ (HT.out.below HT.out.pos b1) HL.out ((lent_rd w bs HL.out).more (by simp)) (by omega) (by omega) (by unfold maxLen; omega)).mono ?_
    rintro e w2 ⟨a2, c2, xs, rfl, hr2, ht2, hb2⟩
    rw [World.size_alloc] at hr2 ht2 hb2
    go_wp2_with fail
    refine (back_any a cap n w.heap.size w.heap.size bs w2 HL.out ((hr.alloc (Nat.le_refl _) _).below hb2 (by omega)) (Nat.le_refl _) (by omega) (lent_at hb2)).mono ?_
    rintro e w' ⟨rfl, Y, rfl⟩
    obtain ⟨hb3, hz3, hm3, hr3, hc3⟩ := back_of hr (cb (bs ++ [165, 90])).toArray hb2 Y
    generalize World.setRow _ _ Y = w3 at *
    have hn3 : Rd w3 w3.heap.size a2 xs := (hr2.keep (S' := (· < w3.heap.size)) (fun b h => by omega) (fun p h => hc3 p (by omega)))
    have ht3 : Rows w3 (· < w3.heap.size) xs (allP bs).1 := ht2.keep (fun b h => by omega) (fun p h => hc3 p (by omega))
    have HZ3 := Lib.hid hz3; clear hz3 hc3 hr2 ht2
    go_wp2_with fail
    refine (ref_all_any a n cap bs w3 HL.out (hr3.more hb3.size) (by omega) hcap HM.out).mono ?_
    rintro e w4 ⟨a4, c4, ys, rfl, hr4, ht4, hb4⟩
    have hb34 := hb3.trans (hb4.mono hb3.size)
    go_wp2_with fail
    refine (finds_any _ (HT.out.below HT.out.pos hb34)).mono ?_
    rintro e w5 ⟨rfl, hb5⟩
    have hn5 := (hn3.below hb4 (Nat.le_refl _)).below hb5 hb4.size
    have ht5 : Rows w5 (· < w3.heap.size) xs (allP bs).1 := ht3.keep (fun _ h => h) (fun p (h : p.block < w3.heap.size) => (hb5.cell (Nat.lt_of_lt_of_le h hb4.size)).trans (hb4.cell h))
    have hr5 : Rd w5 w4.heap.size a4 ys := hr4.keep (S' := (· < w4.heap.size)) (fun b h => h.2) (fun p h => hb5.cell (p := p) h.2)
    have hs5 : Rows w5 (· < w4.heap.size) ys (allP bs).1 := ht4.keep (fun b h => h.2) (fun p h => hb5.cell (p := p) h.2)
    have hal : (allP bs).1.length ≤ n := by
      have := allP_len bs
      rw [HL.out] at this; exact this
    clear hn3 ht3 hr4 ht4
    generalize allP bs = q at *
    obtain ⟨q1, q2, q3⟩ := q
    simp only at *
    go_wp2_with fail
    refine (same_any _ _ q1.length _ _ _ _ _ _ xs ys q1 _ rfl hn5 hr5 ht5 hs5 (by omega)).mono ?_
    rintro e w6 ⟨rfl, hb6⟩
    go_wp2
    go_ret
    exact ⟨rfl, hb34.trans ((hb5.trans (hb6.mono hb5.size)).mono hb34.size)⟩
end Go.Proofs.YtckapnaiehkieaaDoor
