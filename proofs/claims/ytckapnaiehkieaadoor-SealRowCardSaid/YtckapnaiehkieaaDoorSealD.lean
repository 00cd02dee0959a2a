/-
  seal's First, by contract.
-/
import Derived.Test.YtckapnaiehkieaaDoorSealC
import Derived.Deep.DrawnRows
namespace Go.Proofs.YtckapnaiehkieaaDoor
open Go.RowKit
attribute [local go_sem ↓] Go.wp_at_zero Go.wp_at_succ

theorem first_short (a : Option Addr) (n cap : Nat) (w : World) (hn : n < 8) :
    Calls Tryd.prog 18 #[.slice a n cap] w fun e w' => e = .returned (.tuple #[.slice none 0 0, .int .i64 0, .int .i64 20]) ∧ w = w' := by
  go_enter Tryd.func18, Tryd.ntmps18
  go_wp2_with fail
  go_ret3
  exact ⟨rfl, rfl⟩

set_option maxHeartbeats 1000000 in
theorem first_big (a : Option Addr) (n cap B : Nat) (bs : List UInt8) (w : World) (hl : bs.length = n) (hr : Rd w B a (cb bs)) (hB : B ≤ w.heap.size) (hn : n ≤ 4194304) (hcap : n ≤ cap) (h8 : 8 ≤ n) (hbig : 1048576 < le (bs.take 4)) :
    Calls Tryd.prog 18 #[.slice a n cap] w fun e w' => e = .returned (.tuple #[.slice none 0 0, .int .i64 0, .int .i64 21]) ∧ Below w.heap.size w w' := by
  have hr4 := hr.take 4
  rw [cb_take] at hr4
  have h4 : (bs.take 4).length = 4 := by simp; omega
  have htt : (bs.take 4).take 4 = bs.take 4 := by simp [List.take_take]
  have hv := num_ok (bs := bs.take 4) (by omega)
  have hvf := num_form (bs := bs.take 4) (by omega)
  rw [htt] at hv hvf
  have H4 := Lib.hid h4; clear h4
  have HL := Lib.hid hl; clear hl htt
  obtain ⟨b, o, rfl, _, _⟩ := hr.pos (by rw [length_cb, HL.out]; omega)
  by_cases hform : 1000000000 < le (bs.take 4)
  · obtain ⟨e1, e2, _⟩ := hvf hform
    have E1 := Lib.hid e1; have E2 := Lib.hid e2
    clear e1 e2 hv hvf
    generalize bs.take 4 = tk at *
    go_enter Tryd.func18, Tryd.ntmps18
    go_wp2_with fail
    refine (new_any _ 4 cap B tk w H4.out hr4 hB (by omega)).mono ?_
    rintro e w1 ⟨rfl, hR, hb, hz⟩
    go_wp2_with fail
    refine (number_any _ _ tk w1 hR).mono ?_
    rintro e w2 ⟨rfl, _, hg⟩
    rw [E1.out, E2.out]
    have hb2 := hb.grown hg hb.size (fun k hk => by simp only [Option.some.injEq] at hk; omega)
    clear hR hb hz hg hr4
    go_wp2
    go_ret3
    exact ⟨rfl, hb2⟩
  · obtain ⟨e1, e2, _⟩ := hv hform
    have E1 := Lib.hid e1; have E2 := Lib.hid e2
    clear e1 e2 hv hvf
    generalize bs.take 4 = tk at *
    go_enter Tryd.func18, Tryd.ntmps18
    go_wp2_with fail
    refine (new_any _ 4 cap B tk w H4.out hr4 hB (by omega)).mono ?_
    rintro e w1 ⟨rfl, hR, hb, hz⟩
    go_wp2_with fail
    refine (number_any _ _ tk w1 hR).mono ?_
    rintro e w2 ⟨rfl, _, hg⟩
    rw [E1.out, E2.out]
    have hb2 := hb.grown hg hb.size (fun k hk => by simp only [Option.some.injEq] at hk; omega)
    clear hR hb hz hg hr4
    go_wp2
    go_ret3
    exact ⟨rfl, hb2⟩

set_option maxHeartbeats 1000000 in
theorem first_end (a : Option Addr) (n cap B : Nat) (bs : List UInt8) (w : World) (hl : bs.length = n) (hr : Rd w B a (cb bs)) (hB : B ≤ w.heap.size) (hn : n ≤ 4194304) (hcap : n ≤ cap) (h8 : 8 ≤ n) (hbig : ¬ 1048576 < le (bs.take 4)) (hend : n < 8 + le (bs.take 4)) :
    Calls Tryd.prog 18 #[.slice a n cap] w fun e w' => e = .returned (.tuple #[.slice none 0 0, .int .i64 0, .int .i64 20]) ∧ Below w.heap.size w w' := by
  have hr4 := hr.take 4
  rw [cb_take] at hr4
  have h4 : (bs.take 4).length = 4 := by simp; omega
  have htt : (bs.take 4).take 4 = bs.take 4 := by simp [List.take_take]
  have hv := num_ok (bs := bs.take 4) (by omega)
  rw [htt] at hv
  have H4 := Lib.hid h4; clear h4
  have HL := Lib.hid hl; clear hl htt
  obtain ⟨b, o, rfl, _, _⟩ := hr.pos (by rw [length_cb, HL.out]; omega)
  obtain ⟨e1, e2, _⟩ := hv (by omega)
  have E1 := Lib.hid e1; have E2 := Lib.hid e2
  clear e1 e2 hv
  generalize bs.take 4 = tk at *
  generalize le tk = m at *
  go_enter Tryd.func18, Tryd.ntmps18
  go_wp2_with fail
  refine (new_any _ 4 cap B tk w H4.out hr4 hB (by omega)).mono ?_
  rintro e w1 ⟨rfl, hR, hb, hz⟩
  go_wp2_with fail
  refine (number_any _ _ tk w1 hR).mono ?_
  rintro e w2 ⟨rfl, _, hg⟩
  rw [E1.out, E2.out]
  have hb2 := hb.grown hg hb.size (fun k hk => by simp only [Option.some.injEq] at hk; omega)
  clear hR hb hz hg hr4
  go_wp2
  go_ret3
  exact ⟨rfl, hb2⟩

/-- What head answered reads as the head. -/
theorem head_rd (w : World) (bs : List UInt8) {W : World} (hW : (w.alloc (.cells (cb (sizeB bs)).toArray 5)).alloc (.cells (cb (sizeB bs) ++ low (sumB bs : Int) 8).toArray 5) = W) :
    Rd W (w.heap.size + 2) (some ⟨w.heap.size + 1, 0, none⟩) (cb (headB bs)) := by
  subst hW
  have h := Rd.row (off := 0) (n := 8) (heap_alloc2_new w (.cells (cb (sizeB bs)).toArray 5) (.cells (cb (sizeB bs) ++ low (sumB bs : Int) 8).toArray 5)) (B := w.heap.size + 2) (by omega) (by simp)
  have e : List.take 8 (cb (sizeB bs) ++ low (sumB bs : Int) 8) = cb (headB bs) := by
    rw [low_eight, headB, cb_append, ← low_lowB, ← List.append_assoc]
    exact List.take_left' (by simp)
  rw [List.drop_zero, e] at h
  exact h
theorem head_below (w : World) (bs : List UInt8) {W : World} (hW : (w.alloc (.cells (cb (sizeB bs)).toArray 5)).alloc (.cells (cb (sizeB bs) ++ low (sumB bs : Int) 8).toArray 5) = W) : Below w.heap.size w W := by
  subst hW
  exact ((Below.refl _ _).alloc (Nat.le_refl _) _).alloc (by simp) _

set_option maxHeartbeats 2000000 in
theorem first_sum (a : Option Addr) (n cap B : Nat) (bs : List UInt8) (w : World) (hT : Tab w) (hl : bs.length = n) (hr : Rd w B a (cb bs)) (hB : B ≤ w.heap.size) (hn : n ≤ 4194304) (hcap : n ≤ cap) (hm : cap ≤ maxLen) (h8 : 8 ≤ n) (hbig : ¬ 1048576 < le (bs.take 4)) (hend : ¬ n < 8 + le (bs.take 4)) (hbad : ¬ headB (bodyB bs) = bs.take 8) :
    Calls Tryd.prog 18 #[.slice a n cap] w fun e w' => e = .returned (.tuple #[.slice none 0 0, .int .i64 0, .int .i64 21]) ∧ Below w.heap.size w w' := by
  have hr4 := hr.take 4
  rw [cb_take] at hr4
  have hr8 := hr.take 8
  rw [cb_take] at hr8
  have h4 : (bs.take 4).length = 4 := by simp; omega
  have h8' : (bs.take 8).length = 8 := by simp; omega
  have htt : (bs.take 4).take 4 = bs.take 4 := by simp [List.take_take]
  have hv := num_ok (bs := bs.take 4) (by omega)
  rw [htt] at hv
  have H4 := Lib.hid h4; clear h4
  have H8 := Lib.hid h8'; clear h8'
  have hbl : (bodyB bs).length = le (bs.take 4) := length_bodyB (by omega)
  obtain ⟨b, o, rfl, _, _⟩ := hr.pos (by rw [length_cb, hl]; omega)
  have hrb := (hr.drop 8).take (le (bs.take 4))
  rw [cb_drop, cb_take] at hrb
  change Rd w B _ (cb (bodyB bs)) at hrb
  obtain ⟨e1, e2, _⟩ := hv (by omega)
  have E1 := Lib.hid e1; have E2 := Lib.hid e2
  have HL := Lib.hid hl; clear hl htt
  clear e1 e2 hv
  generalize bodyB bs = body at *
  generalize hh8 : bs.take 8 = tk8 at *
  generalize bs.take 4 = tk at *
  clear hh8
  generalize le tk = m at *
  have HBL := Lib.hid hbl; clear hbl
  have hq : (headB body == tk8) = false := by simpa using hbad
  have HQ := Lib.hid hq; clear hq hbad
  have HT := Lib.hid hT; clear hT
  unfold maxLen at hm
  by_cases hc8 : cap = 8
  · obtain rfl : n = 8 := by omega
    obtain rfl : m = 0 := by omega
    obtain rfl : body = [] := List.eq_nil_of_length_eq_zero HBL.out
    subst hc8
    clear hrb
    go_enter Tryd.func18, Tryd.ntmps18
    go_wp2_with fail
    refine (new_any _ 4 _ B tk w H4.out hr4 hB (by omega)).mono ?_
    rintro e w1 ⟨rfl, hR, hb, hz⟩
    go_wp2_with fail
    refine (number_any _ _ tk w1 hR).mono ?_
    rintro e w2 ⟨rfl, _, hg⟩
    rw [E1.out, E2.out]
    have hb2 := hb.grown hg hb.size (fun k hk => by simp only [Option.some.injEq] at hk; omega)
    clear hR hb hz hg hr4
    go_wp2_with fail
    have hb3 : Below w.heap.size w w2.drew := hb2.drew
    have hB3 : B ≤ w2.drew.heap.size := Nat.le_trans hB hb2.size
    have hT3 := HT.out.below HT.out.pos hb3
    have HT3 := Lib.hid hT3; clear hT3
    have hrb3 : ∀ A, Rd w2.drew B A (cb []) := fun A => Rd.nil
    go_region_with (first
      | (go_at_call 25
         refine (head_any _ 0 _ B [] _ HT3.out rfl (hrb3 _) hB3 (by omega)).mono ?_
         rintro e w4 ⟨rfl, hw4⟩
         have hb4 := hb3.trans ((head_below _ _ hw4).mono hb3.size)
         have hrh := head_rd _ _ hw4
         have hr84 := hr8.below hb4 hB
         clear hw4)
      | (go_at_call 30
         refine (equal_any _ _ 8 _ 8 _ _ _ (headB []) tk8 _ (length_headB _) H8.out hrh hr84).mono ?_
         rintro e w5 ⟨rfl, rfl⟩
         rw [HQ.out]))
    all_goals go_wp2
    all_goals go_ret3
    all_goals exact ⟨rfl, hb4⟩
  · skip
    go_enter Tryd.func18, Tryd.ntmps18
    go_wp2_with fail
    refine (new_any _ 4 _ B tk w H4.out hr4 hB (by omega)).mono ?_
    rintro e w1 ⟨rfl, hR, hb, hz⟩
    go_wp2_with fail
    refine (number_any _ _ tk w1 hR).mono ?_
    rintro e w2 ⟨rfl, _, hg⟩
    rw [E1.out, E2.out]
    have hb2 := hb.grown hg hb.size (fun k hk => by simp only [Option.some.injEq] at hk; omega)
    clear hR hb hz hg hr4
    go_wp2_with fail
    have hb3 : Below w.heap.size w w2.drew := hb2.drew
    have hB3 : B ≤ w2.drew.heap.size := Nat.le_trans hB hb2.size
    have hT3 := HT.out.below HT.out.pos hb3
    have HT3 := Lib.hid hT3; clear hT3
    have hrb3 := hrb.below hb3 hB
    go_region_with (first
      | (go_at_call 25
         refine (head_any _ _ _ B body _ HT3.out HBL.out hrb3 hB3 (by omega)).mono ?_
         rintro e w4 ⟨rfl, hw4⟩
         have hb4 := hb3.trans ((head_below _ _ hw4).mono hb3.size)
         have hrh := head_rd _ _ hw4
         have hr84 := hr8.below hb4 hB
         clear hw4)
      | (go_at_call 30
         refine (equal_any _ _ 8 _ 8 _ _ _ (headB body) tk8 _ (length_headB _) H8.out hrh hr84).mono ?_
         rintro e w5 ⟨rfl, rfl⟩
         rw [HQ.out]))
    all_goals go_wp2
    all_goals go_ret3
    all_goals exact ⟨rfl, hb4⟩

theorem ownsRow_base {w : World} {B B' : Nat} {e : TypeId} {size : Nat} {v : Value} {n : Nat} {xs : List Value} (h : w.ownsRow B e size v n xs) (hB : B' ≤ B) : w.ownsRow B' e size v n xs := by
  rcases h with ⟨hl, h | ⟨g, cap, cur, h1, h2, h3⟩⟩
  · exact ⟨hl, .inl h⟩
  · exact ⟨hl, .inr ⟨g, cap, cur, h1, Nat.le_trans hB h2, h3⟩⟩

set_option maxHeartbeats 2000000 in
theorem first_good (a : Option Addr) (n cap B : Nat) (bs : List UInt8) (w : World) (hT : Tab w) (hl : bs.length = n) (hr : Rd w B a (cb bs)) (hB : B ≤ w.heap.size) (hn : n ≤ 4194304) (hcap : n ≤ cap) (hm : cap ≤ maxLen) (h8 : 8 ≤ n) (hbig : ¬ 1048576 < le (bs.take 4)) (hend : ¬ n < 8 + le (bs.take 4)) (hgood : headB (bodyB bs) = bs.take 8) :
    Calls Tryd.prog 18 #[.slice a n cap] w fun e w' => ∃ o, e = .returned (.tuple #[o, .int .i64 (8 + (le (bs.take 4) : Int)), .int .i64 0]) ∧ w'.ownsRow w.heap.size 5 1 o (le (bs.take 4)) (cb (bodyB bs)) ∧ Below w.heap.size w w' := by
  have hr4 := hr.take 4
  rw [cb_take] at hr4
  have hr8 := hr.take 8
  rw [cb_take] at hr8
  have h4 : (bs.take 4).length = 4 := by simp; omega
  have h8' : (bs.take 8).length = 8 := by simp; omega
  have htt : (bs.take 4).take 4 = bs.take 4 := by simp [List.take_take]
  have hv := num_ok (bs := bs.take 4) (by omega)
  rw [htt] at hv
  have H4 := Lib.hid h4; clear h4
  have H8 := Lib.hid h8'; clear h8'
  have hbl : (bodyB bs).length = le (bs.take 4) := length_bodyB (by omega)
  obtain ⟨b, o, rfl, _, _⟩ := hr.pos (by rw [length_cb, hl]; omega)
  have hrb := (hr.drop 8).take (le (bs.take 4))
  rw [cb_drop, cb_take] at hrb
  change Rd w B _ (cb (bodyB bs)) at hrb
  obtain ⟨e1, e2, _⟩ := hv (by omega)
  have E1 := Lib.hid e1; have E2 := Lib.hid e2
  have HL := Lib.hid hl; clear hl htt
  clear e1 e2 hv
  generalize bodyB bs = body at *
  generalize hh8 : bs.take 8 = tk8 at *
  generalize bs.take 4 = tk at *
  clear hh8
  generalize le tk = m at *
  have HBL := Lib.hid hbl; clear hbl
  have hq : (headB body == tk8) = true := by simpa using hgood
  have HQ := Lib.hid hq; clear hq hgood
  have HT := Lib.hid hT; clear hT
  unfold maxLen at hm
  by_cases hc8 : cap = 8
  · obtain rfl : n = 8 := by omega
    obtain rfl : m = 0 := by omega
    obtain rfl : body = [] := List.eq_nil_of_length_eq_zero HBL.out
    subst hc8
    clear hrb
    go_enter Tryd.func18, Tryd.ntmps18
    go_wp2_with fail
    refine (new_any _ 4 _ B tk w H4.out hr4 hB (by omega)).mono ?_
    rintro e w1 ⟨rfl, hR, hb, hz⟩
    go_wp2_with fail
    refine (number_any _ _ tk w1 hR).mono ?_
    rintro e w2 ⟨rfl, _, hg⟩
    rw [E1.out, E2.out]
    have hb2 := hb.grown hg hb.size (fun k hk => by simp only [Option.some.injEq] at hk; omega)
    clear hR hb hz hg hr4
    go_wp2_with fail
    have hb3 : Below w.heap.size w w2.drew := hb2.drew
    have hB3 : B ≤ w2.drew.heap.size := Nat.le_trans hB hb2.size
    have hT3 := HT.out.below HT.out.pos hb3
    have HT3 := Lib.hid hT3; clear hT3
    have hrb3 : ∀ A, Rd w2.drew B A (cb []) := fun A => Rd.nil
    go_region_with (first
      | (go_at_call 25
         refine (head_any _ 0 _ B [] _ HT3.out rfl (hrb3 _) hB3 (by omega)).mono ?_
         rintro e w4 ⟨rfl, hw4⟩
         have hb4 := hb3.trans ((head_below _ _ hw4).mono hb3.size)
         have hrh := head_rd _ _ hw4
         have hr84 := hr8.below hb4 hB
         clear hw4)
      | (go_at_call 30
         refine (equal_any _ _ 8 _ 8 _ _ _ (headB []) tk8 _ (length_headB _) H8.out hrh hr84).mono ?_
         rintro e w5 ⟨rfl, rfl⟩
         rw [HQ.out]))
    all_goals go_wp2_with fail
    all_goals refine (clone_any _ 0 _ B [] _ rfl Rd.nil (Nat.le_trans hB hb4.size) (by omega)).mono ?_
    all_goals rintro e w6 ⟨o6, rfl, hown, hb6⟩
    all_goals go_wp2
    all_goals go_ret3
    all_goals exact ⟨o6, rfl, ownsRow_base hown hb4.size, hb4.trans (hb6.mono hb4.size)⟩
  · skip
    go_enter Tryd.func18, Tryd.ntmps18
    go_wp2_with fail
    refine (new_any _ 4 _ B tk w H4.out hr4 hB (by omega)).mono ?_
    rintro e w1 ⟨rfl, hR, hb, hz⟩
    go_wp2_with fail
    refine (number_any _ _ tk w1 hR).mono ?_
    rintro e w2 ⟨rfl, _, hg⟩
    rw [E1.out, E2.out]
    have hb2 := hb.grown hg hb.size (fun k hk => by simp only [Option.some.injEq] at hk; omega)
    clear hR hb hz hg hr4
    go_wp2_with fail
    have hb3 : Below w.heap.size w w2.drew := hb2.drew
    have hB3 : B ≤ w2.drew.heap.size := Nat.le_trans hB hb2.size
    have hT3 := HT.out.below HT.out.pos hb3
    have HT3 := Lib.hid hT3; clear hT3
    have hrb3 := hrb.below hb3 hB
    go_region_with (first
      | (go_at_call 25
         refine (head_any _ _ _ B body _ HT3.out HBL.out hrb3 hB3 (by omega)).mono ?_
         rintro e w4 ⟨rfl, hw4⟩
         have hb4 := hb3.trans ((head_below _ _ hw4).mono hb3.size)
         have hrh := head_rd _ _ hw4
         have hr84 := hr8.below hb4 hB
         clear hw4)
      | (go_at_call 30
         refine (equal_any _ _ 8 _ 8 _ _ _ (headB body) tk8 _ (length_headB _) H8.out hrh hr84).mono ?_
         rintro e w5 ⟨rfl, rfl⟩
         rw [HQ.out]))
    all_goals go_wp2_with fail
    all_goals refine (clone_any _ _ _ B body _ HBL.out (hrb.below hb4 hB) (Nat.le_trans hB hb4.size) (by omega)).mono ?_
    all_goals rintro e w6 ⟨o6, rfl, hown, hb6⟩
    all_goals go_wp2
    all_goals go_ret3
    all_goals exact ⟨o6, rfl, ownsRow_base hown hb4.size, hb4.trans (hb6.mono hb4.size)⟩

theorem RdS.own {w : World} {base : Nat} {e : TypeId} {v : Value} {n : Nat} {xs : List Value} (h : w.ownsRow base e 1 v n xs) : ∃ a cap, v = .slice a n cap ∧ RdS w (fun b => base ≤ b ∧ b < w.heap.size) a xs ∧ xs.length = n := by
  have hl : xs.length = n := by have := h.1; omega
  rcases h.2 with ⟨rfl, rfl⟩ | ⟨g, cap, cur, rfl, hb, hg, hc, hm, hs, ht⟩
  · exact ⟨none, 0, rfl, .inl (List.eq_nil_of_length_eq_zero hl), hl⟩
  · refine ⟨_, cap, rfl, .inr ⟨g, 0, rfl, h.lt g rfl, fun i hi => ?_⟩, hl⟩
    rw [cell_of_row w g (0 + i) cur e (0, 0) hg]
    subst ht
    simp at hi hs
    simp [Array.getElem?_eq_getElem (show i < cur.size by omega)]

/-- What First leaves behind. -/
def FstPost (bs : List UInt8) (w : World) (e : Ending) (w' : World) : Prop :=
  ∃ a cap, e = .returned (.tuple #[.slice a (fstV bs).length cap, .int .i64 (fstN bs : Nat), .int .i64 (fstE bs)]) ∧ RdS w' (fun b => w.heap.size ≤ b ∧ b < w'.heap.size) a (cb (fstV bs)) ∧ Below w.heap.size w w'

theorem fstPost_no {bs : List UInt8} {w w' : World} {e : Ending} {c : Int} (hc : fstE bs = c) (h0 : c ≠ 0) (he : e = .returned (.tuple #[.slice none 0 0, .int .i64 0, .int .i64 c])) (hb : Below w.heap.size w w') : FstPost bs w e w' := by
  have h1 : ¬ fstE bs = 0 := by rw [hc]; exact h0
  have hv : fstV bs = [] := by simp [fstV, h1]
  have hn : fstN bs = 0 := by simp [fstN, h1]
  exact ⟨none, 0, by rw [he, hv, hn, hc]; rfl, by rw [hv]; exact .inl rfl, hb⟩

theorem first_any (a : Option Addr) (n cap B : Nat) (bs : List UInt8) (w : World) (hT : Tab w) (hl : bs.length = n) (hr : Rd w B a (cb bs)) (hB : B ≤ w.heap.size) (hn : n ≤ 4194304) (hcap : n ≤ cap) (hm : cap ≤ maxLen) :
    Calls Tryd.prog 18 #[.slice a n cap] w (FstPost bs w) := by
  subst hl
  by_cases h8 : bs.length < 8
  · refine (first_short a _ cap w h8).mono ?_
    rintro e w' ⟨he, rfl⟩
    exact fstPost_no (fst_short h8) (by decide) he (Below.refl _ _)
  · by_cases h1 : 1048576 < le (bs.take 4)
    · refine (first_big a _ cap B bs w rfl hr hB hn hcap (by omega) h1).mono ?_
      rintro e w' ⟨he, hb⟩
      exact fstPost_no (fst_big h8 h1) (by decide) he hb
    · by_cases h2 : bs.length < 8 + le (bs.take 4)
      · refine (first_end a _ cap B bs w rfl hr hB hn hcap (by omega) h1 h2).mono ?_
        rintro e w' ⟨he, hb⟩
        exact fstPost_no (fst_end h8 h1 h2) (by decide) he hb
      · by_cases h3 : sumB (bodyB bs) = le ((bs.drop 4).take 4)
        · refine (first_good a _ cap B bs w hT rfl hr hB hn hcap hm (by omega) h1 h2 ((headB_iff h8 h2).2 h3)).mono ?_
          rintro e w' ⟨o, he, hown, hb⟩
          obtain ⟨a', cap', rfl, hrd, _⟩ := RdS.own hown
          have hE := fst_ok h8 h1 h2 h3
          have hv : fstV bs = bodyB bs := by simp [fstV, hE]
          have hnn : fstN bs = 8 + le (bs.take 4) := by simp [fstN, hE]
          refine ⟨a', cap', ?_, by rw [hv]; exact hrd, hb⟩
          rw [he, hv, hnn, hE, length_bodyB h2]
          rfl
        · refine (first_sum a _ cap B bs w hT rfl hr hB hn hcap hm (by omega) h1 h2 (fun h => h3 ((headB_iff h8 h2).1 h))).mono ?_
          rintro e w' ⟨he, hb⟩
          exact fstPost_no (fst_bad h8 h1 h2 h3) (by decide) he hb
end Go.Proofs.YtckapnaiehkieaaDoor
