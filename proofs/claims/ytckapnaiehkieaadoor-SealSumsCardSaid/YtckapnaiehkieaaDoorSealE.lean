/-
  The document's answer for layer 2, by contract: summed, Frame, First.
-/
import Derived.Test.YtckapnaiehkieaaDoorSealD
namespace Go.Proofs.YtckapnaiehkieaaDoor
open Go.RowKit
attribute [local go_sem ↓] Go.wp_at_zero Go.wp_at_succ

set_option maxHeartbeats 400000 in
theorem summed_any (a : Option Addr) (n cap B : Nat) (bs : List UInt8) (w : World) (hl : bs.length = n) (hr : Rd w B a (cb bs)) (hB : B ≤ w.heap.size) (hn : n ≤ 4194300) :
    Calls Tryd.prog 27 #[.slice a n cap] w fun e w' => e = .returned (.int .u32 (sumB bs : Nat)) ∧ Below w.heap.size w w' := by
  obtain ⟨i0, hi, hz0, hz1, hz2⟩ := info_parts info_byte
  have hx : low (n : Int) 4 = cb (sizeB bs) := by rw [low_lowB, sizeB, hl]
  have hs : sumOf (sizeB bs ++ bs) = sumB bs := rfl
  have hll : (sizeB bs ++ bs).length = 4 + n := by simp [hl]
  have HX := Lib.hid hx; clear hx
  have HS := Lib.hid hs; clear hs
  have HLL := Lib.hid hll; clear hll
  have HL := Lib.hid hl; clear hl
  go_enter Tryd.func27, Tryd.ntmps27
  go_wp2_with fail
  refine (low_any (n : Int) 4 w (by omega) (by omega) (by omega)).mono ?_
  rintro e w1 ⟨o, rfl, hown, hb⟩
  rw [HX.out] at hown
  go_wp2_with (at_builtin; refine wpList_append_rd rfl _ _ 22 rfl w.heap.size 5 i0 (.int .u8 0) 1 Tryd.underlying22 hi hz0 hz1 hz2 rfl _ 4 (cb (sizeB bs)) rfl hown w.heap.size _ n cap (cb bs) rfl ((hr.more hB).below hb (Nat.le_refl _)) ?c1 (cb_one _) ?c2 ?c3 hb.size ?_)
  case c1 => rw [length_cb, HL.out]
  case c2 => unfold maxLen; omega
  case c3 => omega
  intro o' w2 hown' hgrow
  have hb' := hb.grown hgrow hb.size (fun j hj => (hown.lt j hj).1)
  rw [← cb_append] at hown'
  obtain ⟨a2, cap2, rfl, hr2, _⟩ := Rd.own hown'
  go_wp2_with fail
  refine (ref_sum_any a2 (4 + n) cap2 _ _ w2 HLL.out hr2 (by omega)).mono ?_
  rintro e w3 ⟨rfl, rfl⟩
  rw [HS.out]
  go_wp2
  go_ret
  exact ⟨rfl, hb'⟩

theorem ref_frame_no (a : Option Addr) (n cap : Nat) (w : World) (hn : 1048576 < n) (hm : n ≤ maxLen) :
    Calls Tryd.prog 16 #[.slice a n cap] w fun e w' => e = .returned (.tuple #[.slice none 0 0, .int .i64 2]) ∧ w = w' := by
  unfold maxLen at hm
  go_enter Tryd.func16, Tryd.ntmps16
  go_wp2_with fail
  go_ret2
  exact ⟨rfl, rfl⟩

set_option maxHeartbeats 1000000 in
theorem ref_frame_ok (a : Option Addr) (n cap : Nat) (bs : List UInt8) (w : World) (hl : bs.length = n) (hr : Rd w w.heap.size a (cb bs)) (hn : n ≤ 1048576) :
    Calls Tryd.prog 16 #[.slice a n cap] w fun e w' =>
      ∃ o, e = .returned (.tuple #[o, .int .i64 0]) ∧ w'.ownsRow w.heap.size 5 1 o (8 + n) (cb (frameB bs)) ∧ Below w.heap.size w w' := by
  obtain ⟨i0, hi, hz0, hz1, hz2⟩ := info_parts info_byte
  have hx : low (n : Int) 4 = cb (sizeB bs) := by rw [low_lowB, sizeB, hl]
  have hs : low (sumB bs : Int) 4 = cb (lowB (sumB bs : Int) 4) := low_lowB _ _
  have hf : cb (frameB bs) = cb (sizeB bs) ++ cb (lowB (sumB bs : Int) 4) ++ cb bs := by rw [frameB, headB, cb_append, cb_append]
  have HX := Lib.hid hx; clear hx
  have HS := Lib.hid hs; clear hs
  have HF := Lib.hid hf; clear hf
  have HL := Lib.hid hl; clear hl
  have hsl := sumOf_lt (sizeB bs ++ bs)
  change sumB bs < _ at hsl
  go_enter Tryd.func16, Tryd.ntmps16
  go_wp2_with fail
  refine (low_any (n : Int) 4 w (by omega) (by omega) (by omega)).mono ?_
  rintro e w1 ⟨o, rfl, hown, hb⟩
  rw [HX.out] at hown
  go_wp2_with fail
  refine (summed_any a n cap _ bs w1 HL.out (hr.below hb (Nat.le_refl _)) hb.size (by omega)).mono ?_
  rintro e w2 ⟨rfl, hb2⟩
  generalize hsum : sumB bs = s at *
  have HSUM := Lib.hid hsum; clear hsum
  have hown2 := own_below hown hb2
  have hbb2 := hb.trans (hb2.mono hb.size)
  go_wp2_with fail
  refine (low_any (s : Int) 4 w2 (by omega) (by omega) (by omega)).mono ?_
  rintro e w3 ⟨o3, rfl, hown3, hb3⟩
  rw [HS.out] at hown3
  obtain ⟨a3, cap3, rfl, hr3, hl3⟩ := Rd.own hown3
  have hown2' := own_below hown2 hb3
  have hbb3 := hbb2.trans (hb3.mono hbb2.size)
  go_wp2_with (at_builtin; refine wpList_append_rd rfl _ _ 22 rfl w.heap.size 5 i0 (.int .u8 0) 1 Tryd.underlying22 hi hz0 hz1 hz2 rfl _ 4 (cb (sizeB bs)) rfl hown2' w3.heap.size _ 4 cap3 _ rfl hr3 ?c1 (cb_one _) ?c2 ?c3 hbb3.size ?_)
  case c1 => exact hl3
  case c2 => unfold maxLen; omega
  case c3 => omega
  intro o4 w4 hown4 hg4
  have hbb4 := hbb3.grown hg4 hbb3.size (fun j hj => (hown2'.lt j hj).1)
  go_wp2_with (at_builtin; refine wpList_append_rd rfl _ _ 22 rfl w.heap.size 5 i0 (.int .u8 0) 1 Tryd.underlying22 hi hz0 hz1 hz2 rfl _ 8 _ rfl hown4 w.heap.size _ n cap (cb bs) rfl (hr.below hbb4 (Nat.le_refl _)) ?c4 (cb_one _) ?c5 ?c6 hbb4.size ?_)
  case c4 => rw [length_cb, HL.out]
  case c5 => unfold maxLen; omega
  case c6 => omega
  intro o5 w5 hown5 hg5
  have hbb5 := hbb4.grown hg5 hbb4.size (fun j hj => (hown4.lt j hj).1)
  go_wp2
  go_ret2
  exact ⟨o5, rfl, by rw [HF.out]; exact hown5, hbb5⟩

theorem ref_first_short (a : Option Addr) (n cap : Nat) (w : World) (hn : n < 8) :
    Calls Tryd.prog 19 #[.slice a n cap] w fun e w' => e = .returned (.tuple #[.slice none 0 0, .int .i64 0, .int .i64 20]) ∧ w = w' := by
  go_enter Tryd.func19, Tryd.ntmps19
  go_wp2_with fail
  go_ret3
  exact ⟨rfl, rfl⟩

set_option maxHeartbeats 1000000 in
theorem ref_first_big (a : Option Addr) (n cap B : Nat) (bs : List UInt8) (w : World) (hl : bs.length = n) (hr : Rd w B a (cb bs)) (hn : n ≤ 4194304) (hcap : n ≤ cap) (h8 : 8 ≤ n) (hbig : 1048576 < le (bs.take 4)) :
    Calls Tryd.prog 19 #[.slice a n cap] w fun e w' => e = .returned (.tuple #[.slice none 0 0, .int .i64 0, .int .i64 21]) ∧ w = w' := by
  have hr4 := hr.take 4
  rw [cb_take] at hr4
  have h4 : (bs.take 4).length = 4 := by simp; omega
  have hlt := le_lt (bs.take 4)
  rw [h4] at hlt
  have H4 := Lib.hid h4; clear h4
  have HL := Lib.hid hl; clear hl
  obtain ⟨b, o, rfl, _, _⟩ := hr.pos (by rw [length_cb, HL.out]; omega)
  generalize bs.take 4 = tk at *
  generalize hm : le tk = m at *
  have HM := Lib.hid hm; clear hm
  go_enter Tryd.func19, Tryd.ntmps19
  go_wp2_with fail
  refine (of_any _ 4 _ tk B w H4.out hr4 (by omega)).mono ?_
  rintro e w1 ⟨rfl, rfl⟩
  rw [HM.out]
  go_wp2
  go_ret3
  exact ⟨rfl, rfl⟩

set_option maxHeartbeats 1000000 in
theorem ref_first_end (a : Option Addr) (n cap B : Nat) (bs : List UInt8) (w : World) (hl : bs.length = n) (hr : Rd w B a (cb bs)) (hn : n ≤ 4194304) (hcap : n ≤ cap) (h8 : 8 ≤ n) (hbig : ¬ 1048576 < le (bs.take 4)) (hend : n < 8 + le (bs.take 4)) :
    Calls Tryd.prog 19 #[.slice a n cap] w fun e w' => e = .returned (.tuple #[.slice none 0 0, .int .i64 0, .int .i64 20]) ∧ w = w' := by
  have hr4 := hr.take 4
  rw [cb_take] at hr4
  have h4 : (bs.take 4).length = 4 := by simp; omega
  have H4 := Lib.hid h4; clear h4
  have HL := Lib.hid hl; clear hl
  obtain ⟨b, o, rfl, _, _⟩ := hr.pos (by rw [length_cb, HL.out]; omega)
  generalize bs.take 4 = tk at *
  generalize hm : le tk = m at *
  have HM := Lib.hid hm; clear hm
  go_enter Tryd.func19, Tryd.ntmps19
  go_wp2_with fail
  refine (of_any _ 4 _ tk B w H4.out hr4 (by omega)).mono ?_
  rintro e w1 ⟨rfl, rfl⟩
  rw [HM.out]
  go_wp2
  go_ret3
  exact ⟨rfl, rfl⟩
set_option maxHeartbeats 2000000 in
theorem ref_first_sum (a : Option Addr) (n cap B : Nat) (bs : List UInt8) (w : World) (hl : bs.length = n) (hr : Rd w B a (cb bs)) (hB : B ≤ w.heap.size) (hn : n ≤ 4194304) (hcap : n ≤ cap) (hm : cap ≤ maxLen) (h8 : 8 ≤ n) (hbig : ¬ 1048576 < le (bs.take 4)) (hend : ¬ n < 8 + le (bs.take 4)) (hbad : ¬ sumB (bodyB bs) = le ((bs.drop 4).take 4)) :
    Calls Tryd.prog 19 #[.slice a n cap] w fun e w' => e = .returned (.tuple #[.slice none 0 0, .int .i64 0, .int .i64 21]) ∧ Below w.heap.size w w' := by
  have hr4 := hr.take 4
  rw [cb_take] at hr4
  have h4 : (bs.take 4).length = 4 := by simp; omega
  have h4' : ((bs.drop 4).take 4).length = 4 := by simp; omega
  have H4 := Lib.hid h4; clear h4
  have H4' := Lib.hid h4'; clear h4'
  have hbl : (bodyB bs).length = le (bs.take 4) := length_bodyB (by omega)
  obtain ⟨b, o, rfl, _, _⟩ := hr.pos (by rw [length_cb, hl]; omega)
  have hr48 := (hr.drop 4).take 4
  rw [cb_drop, cb_take] at hr48
  have hrb := (hr.drop 8).take (le (bs.take 4))
  rw [cb_drop, cb_take] at hrb
  change Rd w B _ (cb (bodyB bs)) at hrb
  have HL := Lib.hid hl; clear hl
  have hss := sumOf_lt (sizeB (bodyB bs) ++ bodyB bs)
  change sumB (bodyB bs) < _ at hss
  have hls := le_lt ((bs.drop 4).take 4)
  rw [H4'.out] at hls
  generalize bodyB bs = body at *
  generalize (bs.drop 4).take 4 = tk8 at *
  generalize bs.take 4 = tk at *
  generalize hmm : le tk = m at *
  have HM := Lib.hid hmm; clear hmm
  have HBL := Lib.hid hbl; clear hbl
  generalize hs : sumB body = s at *
  have HS := Lib.hid hs; clear hs
  generalize ho : le tk8 = t at *
  have HO := Lib.hid ho; clear ho
  have hne : ((s : Int) != (t : Int)) = true := by simp; omega
  have hne' : ((s : Int) == (t : Int)) = false := by simp; omega
  have hne2 : (s != t) = true := by simpa using hbad
  have hne2' : (s == t) = false := by simpa using hbad
  have hws : IntKind.u64.wrap (s : Int) = (s : Int) := by rw [IntKind.wrap_u64]; omega
  have HWS := Lib.hid hws; clear hws
  clear hbad
  unfold maxLen at hm
  by_cases hc8 : cap = 8
  · obtain rfl : n = 8 := by omega
    obtain rfl : m = 0 := by omega
    obtain rfl : body = [] := List.eq_nil_of_length_eq_zero HBL.out
    subst hc8
    clear hrb
    go_enter Tryd.func19, Tryd.ntmps19
    go_wp2_with fail
    refine (of_any _ 4 _ tk B w H4.out hr4 (by omega)).mono ?_
    rintro e w1 ⟨rfl, rfl⟩
    rw [HM.out]
    go_wp2_with fail
    have hb0 : Below w.heap.size w w.drew := (Below.refl _ _).drew
    have hB0 : B ≤ w.drew.heap.size := hB
    have hr480 := hr48.below hb0 hB
    have hrb0 : ∀ A, Rd w.drew B A (cb []) := fun A => Rd.nil
    have hws := HWS.out
    go_region_with (first
      | (go_at_call 27
         refine (summed_any _ 0 _ B [] _ rfl (hrb0 _) hB0 (by omega)).mono ?_
         rintro e w3 ⟨rfl, hb3⟩
         have hbw3 := hb0.trans (hb3.mono (Nat.le_refl _))
         have hr483 := hr480.below hb3 hB0
         rw [HS.out])
      | (go_at_call 32
         refine (of_any _ 4 _ tk8 B _ H4'.out (by first | exact hr480 | exact hr483) (by omega)).mono ?_
         rintro e w5 ⟨rfl, rfl⟩
         rw [HO.out]))
    all_goals go_wp2
    all_goals go_ret3
    all_goals exact ⟨rfl, hbw3⟩
  · skip
    go_enter Tryd.func19, Tryd.ntmps19
    go_wp2_with fail
    refine (of_any _ 4 _ tk B w H4.out hr4 (by omega)).mono ?_
    rintro e w1 ⟨rfl, rfl⟩
    rw [HM.out]
    go_wp2_with fail
    have hb0 : Below w.heap.size w w.drew := (Below.refl _ _).drew
    have hB0 : B ≤ w.drew.heap.size := hB
    have hr480 := hr48.below hb0 hB
    have hrb0 := hrb.below hb0 hB
    have hws := HWS.out
    go_region_with (first
      | (go_at_call 27
         refine (summed_any _ _ _ B body _ HBL.out hrb0 hB0 (by omega)).mono ?_
         rintro e w3 ⟨rfl, hb3⟩
         have hbw3 := hb0.trans (hb3.mono (Nat.le_refl _))
         have hr483 := hr480.below hb3 hB0
         rw [HS.out])
      | (go_at_call 32
         refine (of_any _ 4 _ tk8 B _ H4'.out (by first | exact hr480 | exact hr483) (by omega)).mono ?_
         rintro e w5 ⟨rfl, rfl⟩
         rw [HO.out]))
    all_goals go_wp2
    all_goals go_ret3
    all_goals exact ⟨rfl, hbw3⟩

set_option maxHeartbeats 2000000 in
theorem ref_first_good (a : Option Addr) (n cap B : Nat) (bs : List UInt8) (w : World) (hl : bs.length = n) (hr : Rd w B a (cb bs)) (hB : B ≤ w.heap.size) (hn : n ≤ 4194304) (hcap : n ≤ cap) (hm : cap ≤ maxLen) (h8 : 8 ≤ n) (hbig : ¬ 1048576 < le (bs.take 4)) (hend : ¬ n < 8 + le (bs.take 4)) (hgood : sumB (bodyB bs) = le ((bs.drop 4).take 4)) :
    Calls Tryd.prog 19 #[.slice a n cap] w fun e w' => ∃ a' cap', e = .returned (.tuple #[.slice a' (le (bs.take 4)) cap', .int .i64 (8 + (le (bs.take 4) : Int)), .int .i64 0]) ∧ Rd w' B a' (cb (bodyB bs)) ∧ Below w.heap.size w w' := by
  have hr4 := hr.take 4
  rw [cb_take] at hr4
  have h4 : (bs.take 4).length = 4 := by simp; omega
  have h4' : ((bs.drop 4).take 4).length = 4 := by simp; omega
  have H4 := Lib.hid h4; clear h4
  have H4' := Lib.hid h4'; clear h4'
  have hbl : (bodyB bs).length = le (bs.take 4) := length_bodyB (by omega)
  obtain ⟨b, o, rfl, _, _⟩ := hr.pos (by rw [length_cb, hl]; omega)
  have hr48 := (hr.drop 4).take 4
  rw [cb_drop, cb_take] at hr48
  have hrb := (hr.drop 8).take (le (bs.take 4))
  rw [cb_drop, cb_take] at hrb
  change Rd w B _ (cb (bodyB bs)) at hrb
  have HL := Lib.hid hl; clear hl
  have hss := sumOf_lt (sizeB (bodyB bs) ++ bodyB bs)
  change sumB (bodyB bs) < _ at hss
  have hls := le_lt ((bs.drop 4).take 4)
  rw [H4'.out] at hls
  generalize bodyB bs = body at *
  generalize (bs.drop 4).take 4 = tk8 at *
  generalize bs.take 4 = tk at *
  generalize hmm : le tk = m at *
  have HM := Lib.hid hmm; clear hmm
  have HBL := Lib.hid hbl; clear hbl
  generalize hs : sumB body = s at *
  have HS := Lib.hid hs; clear hs
  have HO := Lib.hid hgood.symm; clear hgood
  have hws : IntKind.u64.wrap (s : Int) = (s : Int) := by rw [IntKind.wrap_u64]; omega
  have HWS := Lib.hid hws; clear hws
  unfold maxLen at hm
  by_cases hc8 : cap = 8
  · obtain rfl : n = 8 := by omega
    obtain rfl : m = 0 := by omega
    obtain rfl : body = [] := List.eq_nil_of_length_eq_zero HBL.out
    subst hc8
    clear hrb
    go_enter Tryd.func19, Tryd.ntmps19
    go_wp2_with fail
    refine (of_any _ 4 _ tk B w H4.out hr4 (by omega)).mono ?_
    rintro e w1 ⟨rfl, rfl⟩
    rw [HM.out]
    go_wp2_with fail
    have hb0 : Below w.heap.size w w.drew := (Below.refl _ _).drew
    have hB0 : B ≤ w.drew.heap.size := hB
    have hr480 := hr48.below hb0 hB
    have hrb0 : ∀ A, Rd w.drew B A (cb []) := fun A => Rd.nil
    have hws := HWS.out
    go_region_with (first
      | (go_at_call 27
         refine (summed_any _ 0 _ B [] _ rfl (hrb0 _) hB0 (by omega)).mono ?_
         rintro e w3 ⟨rfl, hb3⟩
         have hbw3 := hb0.trans (hb3.mono (Nat.le_refl _))
         have hr483 := hr480.below hb3 hB0
         rw [HS.out])
      | (go_at_call 32
         refine (of_any _ 4 _ tk8 B _ H4'.out (by first | exact hr480 | exact hr483) (by omega)).mono ?_
         rintro e w5 ⟨rfl, rfl⟩
         rw [HO.out]))
    all_goals go_wp2
    all_goals go_ret3
    all_goals exact ⟨_, _, rfl, Rd.nil, hbw3⟩
  · skip
    go_enter Tryd.func19, Tryd.ntmps19
    go_wp2_with fail
    refine (of_any _ 4 _ tk B w H4.out hr4 (by omega)).mono ?_
    rintro e w1 ⟨rfl, rfl⟩
    rw [HM.out]
    go_wp2_with fail
    have hb0 : Below w.heap.size w w.drew := (Below.refl _ _).drew
    have hB0 : B ≤ w.drew.heap.size := hB
    have hr480 := hr48.below hb0 hB
    have hrb0 := hrb.below hb0 hB
    have hws := HWS.out
    go_region_with (first
      | (go_at_call 27
         refine (summed_any _ _ _ B body _ HBL.out hrb0 hB0 (by omega)).mono ?_
         rintro e w3 ⟨rfl, hb3⟩
         have hbw3 := hb0.trans (hb3.mono (Nat.le_refl _))
         have hr483 := hr480.below hb3 hB0
         rw [HS.out])
      | (go_at_call 32
         refine (of_any _ 4 _ tk8 B _ H4'.out (by first | exact hr480 | exact hr483) (by omega)).mono ?_
         rintro e w5 ⟨rfl, rfl⟩
         rw [HO.out]))
    all_goals go_wp2
    all_goals go_ret3
    all_goals exact ⟨_, _, rfl, hrb.below hbw3 hB, hbw3⟩

/-- What the document's First leaves behind: the bytes stand in what came in. -/
def FstPost' (B : Nat) (bs : List UInt8) (w : World) (e : Ending) (w' : World) : Prop :=
  ∃ a cap, e = .returned (.tuple #[.slice a (fstV bs).length cap, .int .i64 (fstN bs : Nat), .int .i64 (fstE bs)]) ∧ Rd w' B a (cb (fstV bs)) ∧ Below w.heap.size w w'

theorem fstPost'_no {B : Nat} {bs : List UInt8} {w w' : World} {e : Ending} {c : Int} (hc : fstE bs = c) (h0 : c ≠ 0) (he : e = .returned (.tuple #[.slice none 0 0, .int .i64 0, .int .i64 c])) (hb : Below w.heap.size w w') : FstPost' B bs w e w' := by
  have h1 : ¬ fstE bs = 0 := by rw [hc]; exact h0
  have hv : fstV bs = [] := by simp [fstV, h1]
  have hn : fstN bs = 0 := by simp [fstN, h1]
  exact ⟨none, 0, by rw [he, hv, hn, hc]; rfl, by rw [hv]; exact Rd.nil, hb⟩

theorem ref_first_any (a : Option Addr) (n cap B : Nat) (bs : List UInt8) (w : World) (hl : bs.length = n) (hr : Rd w B a (cb bs)) (hB : B ≤ w.heap.size) (hn : n ≤ 4194304) (hcap : n ≤ cap) (hm : cap ≤ maxLen) :
    Calls Tryd.prog 19 #[.slice a n cap] w (FstPost' B bs w) := by
  subst hl
  by_cases h8 : bs.length < 8
  · refine (ref_first_short a _ cap w h8).mono ?_
    rintro e w' ⟨he, rfl⟩
    exact fstPost'_no (fst_short h8) (by decide) he (Below.refl _ _)
  · by_cases h1 : 1048576 < le (bs.take 4)
    · refine (ref_first_big a _ cap B bs w rfl hr hn hcap (by omega) h1).mono ?_
      rintro e w' ⟨he, rfl⟩
      exact fstPost'_no (fst_big h8 h1) (by decide) he (Below.refl _ _)
    · by_cases h2 : bs.length < 8 + le (bs.take 4)
      · refine (ref_first_end a _ cap B bs w rfl hr hn hcap (by omega) h1 h2).mono ?_
        rintro e w' ⟨he, rfl⟩
        exact fstPost'_no (fst_end h8 h1 h2) (by decide) he (Below.refl _ _)
      · by_cases h3 : sumB (bodyB bs) = le ((bs.drop 4).take 4)
        · refine (ref_first_good a _ cap B bs w rfl hr hB hn hcap hm (by omega) h1 h2 h3).mono ?_
          rintro e w' ⟨a', cap', he, hrd, hb⟩
          have hE := fst_ok h8 h1 h2 h3
          have hv : fstV bs = bodyB bs := by simp [fstV, hE]
          have hnn : fstN bs = 8 + le (bs.take 4) := by simp [fstN, hE]
          refine ⟨a', cap', ?_, by rw [hv]; exact hrd, hb⟩
          rw [he, hv, hnn, hE, length_bodyB h2]
          rfl
        · refine (ref_first_sum a _ cap B bs w rfl hr hB hn hcap hm (by omega) h1 h2 h3).mono ?_
          rintro e w' ⟨he, hb⟩
          exact fstPost'_no (fst_bad h8 h1 h2 h3) (by decide) he hb
end Go.Proofs.YtckapnaiehkieaaDoor
