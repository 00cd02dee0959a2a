/-
  seal's All, by contract; the document's All and Same.
-/
import Derived.Test.YtckapnaiehkieaaDoorSealE
import Derived.Test.YtckapnaiehkieaaDoorSlices
import Derived.WalkSmall
import Derived.WalkMore
import Derived.Deep.LoopGhost
namespace Go.Proofs.YtckapnaiehkieaaDoor
open Go.RowKit

theorem fst_len {bs : List UInt8} (h : fstE bs = 0) : fstN bs ≤ bs.length ∧ 8 ≤ fstN bs ∧ (fstV bs).length + 8 = fstN bs := by
  obtain ⟨h8, h1, h2, h3⟩ := fst_inv h
  have hn : fstN bs = 8 + le (bs.take 4) := by simp [fstN, h]
  have hv : fstV bs = bodyB bs := by simp [fstV, h]
  have := length_bodyB h2
  rw [hv, hn]
  omega

/-- What All answers: the frames' bytes, how many bytes they have, and the code. -/
def allP (bs : List UInt8) : List (List UInt8) × Nat × Int :=
  if _h0 : bs = [] then ([], 0, 0)
  else if _h : fstE bs = 0 then (fstV bs :: (allP (bs.drop (fstN bs))).1, fstN bs + (allP (bs.drop (fstN bs))).2.1, (allP (bs.drop (fstN bs))).2.2)
  else ([], 0, fstE bs)
termination_by bs.length
decreasing_by
  all_goals
    have := fst_len ‹_›
    have : 0 < bs.length := List.length_pos_iff.2 ‹_›
    simp only [List.length_drop]
    omega
theorem allP_nil : allP [] = ([], 0, 0) := by rw [allP]; simp
theorem allP_ok {bs : List UInt8} (h0 : bs ≠ []) (h : fstE bs = 0) : allP bs = (fstV bs :: (allP (bs.drop (fstN bs))).1, fstN bs + (allP (bs.drop (fstN bs))).2.1, (allP (bs.drop (fstN bs))).2.2) := by
  rw [allP, dif_neg h0, dif_pos h]
theorem allP_no {bs : List UInt8} (h0 : bs ≠ []) (h : ¬ fstE bs = 0) : allP bs = ([], 0, fstE bs) := by
  rw [allP, dif_neg h0, dif_neg h]

theorem allP_len (bs : List UInt8) : (allP bs).1.length ≤ bs.length := by
  generalize hn : bs.length = n
  induction n using Nat.strongRecOn generalizing bs with
  | ind n ih =>
    by_cases h0 : bs = []
    · subst h0; rw [allP_nil]; simp
    · by_cases h : fstE bs = 0
      · have hl := fst_len h
        have hp : 0 < bs.length := List.length_pos_iff.2 h0
        rw [allP_ok h0 h]
        have := ih (bs.drop (fstN bs)).length (by rw [List.length_drop]; omega) _ rfl
        rw [List.length_drop] at this
        simp only [List.length_cons]
        omega
      · rw [allP_no h0 h]; simp
/-- As far as place k the bytes 'acc' were found. -/
def AllAt (bs : List UInt8) (k : Nat) (acc : List (List UInt8)) : Prop :=
  k ≤ bs.length ∧ acc.length ≤ k ∧ allP bs = (acc ++ (allP (bs.drop k)).1, k + (allP (bs.drop k)).2.1, (allP (bs.drop k)).2.2)
theorem allAt_zero (bs : List UInt8) : AllAt bs 0 [] := ⟨Nat.zero_le _, Nat.le_refl _, by simp⟩
theorem allAt_step {bs : List UInt8} {k : Nat} {acc : List (List UInt8)} (h : AllAt bs k acc) (hk : k < bs.length) (he : fstE (bs.drop k) = 0) : AllAt bs (k + fstN (bs.drop k)) (acc ++ [fstV (bs.drop k)]) := by
  obtain ⟨h1, h2, h3⟩ := h
  have hl := fst_len he
  have h0 : bs.drop k ≠ [] := by intro e; have := congrArg List.length e; simp at this; omega
  rw [List.length_drop] at hl
  refine ⟨by omega, by simp; omega, ?_⟩
  rw [h3, allP_ok h0 he, List.drop_drop]
  simp [Nat.add_assoc]
theorem allAt_end {bs : List UInt8} {k : Nat} {acc : List (List UInt8)} (h : AllAt bs k acc) (hk : ¬ k < bs.length) : allP bs = (acc, k, 0) := by
  obtain ⟨h1, h2, h3⟩ := h
  rw [h3, List.drop_eq_nil_of_le (by omega), allP_nil]
  simp
theorem allAt_stop {bs : List UInt8} {k : Nat} {acc : List (List UInt8)} (h : AllAt bs k acc) (hk : k < bs.length) (he : ¬ fstE (bs.drop k) = 0) : allP bs = (acc, k, fstE (bs.drop k)) := by
  obtain ⟨h1, h2, h3⟩ := h
  have h0 : bs.drop k ≠ [] := by intro e; have := congrArg List.length e; simp at this; omega
  rw [h3, allP_no h0 he]
  simp

theorem info_slice : (Tryd.prog.info? 22).map (fun i => (i.zero, i.size, i.bytes)) = some (some (.slice none 0 0), 1, 24) := by kernel_rfl

/-- What All leaves behind. -/
def AllPost (S : Nat → Prop) (bs : List UInt8) (w : World) (e : Ending) (w' : World) : Prop :=
  ∃ a cap xs, e = .returned (.tuple #[.slice a (allP bs).1.length cap, .int .i64 ((allP bs).2.1 : Nat), .int .i64 (allP bs).2.2]) ∧ RdS w' (fun b => w.heap.size ≤ b ∧ b < w'.heap.size) a xs ∧ Rows w' (fun b => S b ∧ b < w'.heap.size) xs (allP bs).1 ∧ Below w.heap.size w w'

theorem allPost_mk {S : Nat → Prop} {bs : List UInt8} {w w' : World} {o : Value} {xs : List Value} {acc : List (List UInt8)} {k : Nat} {c : Int} (ha : allP bs = (acc, k, c)) (hown : w'.ownsRow w.heap.size 22 1 o acc.length xs) (hr : Rows w' (fun b => S b ∧ b < w'.heap.size) xs acc) (hb : Below w.heap.size w w') :
    AllPost S bs w (.returned (.tuple #[o, .int .i64 (k : Int), .int .i64 c])) w' := by
  obtain ⟨a, cap, rfl, hrd, _⟩ := RdS.own hown
  exact ⟨a, cap, xs, by rw [ha], hrd, by rw [ha]; exact hr, hb⟩

set_option maxHeartbeats 2000000 in
theorem all_any (a : Option Addr) (n cap : Nat) (bs : List UInt8) (w : World) (hT : Tab w) (hl : bs.length = n) (hr : Rd w w.heap.size a (cb bs)) (hn : n ≤ 4194304) (hcap : n ≤ cap) (hm : cap ≤ maxLen) :
    Calls Tryd.prog 21 #[.slice a n cap] w (AllPost (w.heap.size ≤ ·) bs w) := by
  obtain ⟨i0, hi, hz0, hz1, hz2⟩ := info_parts info_slice
  have HM := Lib.hid hm
  unfold maxLen at hm
  have HL := Lib.hid hl; clear hl
  have HT := Lib.hid hT; clear hT
  go_enter Tryd.func21, Tryd.ntmps21
  go_wp2
  go_step3
  go_wp2
  go_step3
  go_wp2
  go_loopw [5, 6, 7] (fun o i r wr => ∃ (k : Nat) (acc : List (List UInt8)) (xs : List Value) (o' : Value), o' = o ∧ AllAt bs k acc ∧ i = .int .i64 k ∧ r = .int .i64 0 ∧ wr.ownsRow w.heap.size 22 1 o' acc.length xs ∧ Rows wr (Beside w.heap.size wr o') xs acc ∧ Below w.heap.size w wr) (fun _ i _ _ => n - (intOf i).toNat)
  case atStart => exact ⟨0, [], [], _, rfl, allAt_zero bs, rfl, rfl, World.ownsRow_nil _ _ _ _, trivial, Below.refl _ _⟩
  case round =>
    obtain ⟨k, acc, xs, o', rfl, hat, rfl, rfl, hown, hrows, hb⟩ := hrel
    have hkn : k ≤ n := by have := hat.1; rw [HL.out] at this; exact this
    by_cases hlt : k < n
    · obtain ⟨b, o, rfl, _, _⟩ := hr.pos (by rw [length_cb, HL.out]; omega)
      have hrk := (hr.drop k).below hb (Nat.le_refl _)
      rw [cb_drop] at hrk
      have hlk : (bs.drop k).length = n - k := by rw [List.length_drop, HL.out]
      have HLK := Lib.hid hlk; clear hlk
      have hTr := HT.out.below HT.out.pos hb
      have HTR := Lib.hid hTr; clear hTr
      have hbz := hb.size
      go_wp2_with fail
      refine (first_any _ (n - k) (cap - k) w.heap.size (bs.drop k) _ HTR.out HLK.out hrk hbz (by omega) (by omega) (by have := HM.out; omega)).mono ?_
      rintro e w1 ⟨a1, cap1, rfl, hr1, hb1⟩
      by_cases hE : fstE (bs.drop k) = 0
      · have hst := allAt_step hat (by rw [HL.out]; exact hlt) hE
        have hfl := fst_len hE
        rw [HLK.out] at hfl
        rw [hE]
        have HST := Lib.hid hst; clear hst hE
        have hal : acc.length ≤ n := Nat.le_trans hat.2.1 hkn
        have hol : ∀ j, o'.ownBlock = some j → j < wr.heap.size := fun j hj => (hown.lt j hj).2
        have hb2 : Below wr.heap.size wr (w1.alloc (.cells #[.slice a1 (fstV (bs.drop k)).length cap1] 22)) := hb1.alloc hb1.size _
        have hb12 : Below w1.heap.size w1 (w1.alloc (.cells #[.slice a1 (fstV (bs.drop k)).length cap1] 22)) := (Below.refl _ _).alloc (Nat.le_refl _) _
        have hown1 := (own_below hown hb1).alloc (.cells #[.slice a1 (fstV (bs.drop k)).length cap1] 22)
        go_wp2_with (at_builtin; refine wpList_append_own_at _ rfl _ _ 34 rfl w.heap.size 22 i0 (.slice none 0 0) 1 24 Tryd.underlying34 hi hz0 hz1 hz2 rfl (by decide) _ _ _ rfl hown1 ⟨_, 0, none⟩ 1 1 [.slice a1 (fstV (bs.drop k)).length cap1] rfl rfl ?c1 ?c2 ?c3 ?c4 ?c5 ?_)
        case c1 => exact cell_new _ _ _
        case c2 => intro u hu; simp at hu; subst hu; rfl
        case c3 => unfold maxLen; omega
        case c4 => omega
        case c5 => have := hb1.size; simp; omega
        intro o3 w3 hown3 hgrow _ hat3
        have hat3 : o3.ownBlock = o'.ownBlock ∨ o3.ownBlock = some (w1.alloc (.cells #[.slice a1 (fstV (bs.drop k)).length cap1] 22)).heap.size := by simpa using hat3
        have hrow3 := (hrows.grown hb2 hgrow hat3).append (Rows.one (cap := cap1) (hr1.fresh hbz hb12 hol hgrow hat3))
        have hb3 := (hb.trans (hb2.mono hb.size)).grown hgrow (hb.trans (hb2.mono hb.size)).size (fun j hj => (hown1.lt j hj).1)
        have hl3 : (acc ++ [fstV (bs.drop k)]).length = acc.length + 1 := by simp
        have HL3 := Lib.hid hl3; clear hl3
        go_wp2
        go_roundw
        case rel => exact ⟨k + fstN (bs.drop k), _, _, _, rfl, HST.out, by go_num, rfl, by rw [HL3.out]; exact hown3, hrow3, hb3⟩
        case measure => simp [intOf]; omega
      · have hst := allAt_stop hat (by rw [HL.out]; exact hlt) hE
        have HST := Lib.hid hst; clear hst
        have hE' : (fstE (bs.drop k) == 0) = false := by simpa using hE
        have hown1 := own_below hown hb1
        have hrow1 : Rows w1 (fun b => w.heap.size ≤ b ∧ b < w1.heap.size) xs acc := hrows.keep (fun _ h => ⟨h.1, Nat.lt_of_lt_of_le h.2.1 hb1.size⟩) (fun _ h => hb1.cell h.2.1)
        go_wp2
        go_ret3
        exact allPost_mk HST.out hown1 hrow1 (hb.trans (hb1.mono hb.size))
    · have hst := allAt_end hat (by rw [HL.out]; exact hlt)
      have HST := Lib.hid hst; clear hst
      go_wp2
      go_ret3
      exact allPost_mk HST.out hown (hrows.keep (fun _ h => ⟨h.1, h.2.1⟩) (fun _ _ => rfl)) hb

set_option maxHeartbeats 2000000 in
theorem ref_all_any (a : Option Addr) (n cap : Nat) (bs : List UInt8) (w : World) (hl : bs.length = n) (hr : Rd w w.heap.size a (cb bs)) (hn : n ≤ 4194304) (hcap : n ≤ cap) (hm : cap ≤ maxLen) :
    Calls Tryd.prog 22 #[.slice a n cap] w (AllPost (fun _ => True) bs w) := by
  obtain ⟨i0, hi, hz0, hz1, hz2⟩ := info_parts info_slice
  have HM := Lib.hid hm
  unfold maxLen at hm
  have HL := Lib.hid hl; clear hl
  go_enter Tryd.func22, Tryd.ntmps22
  go_wp2
  go_loopw [5, 6] (fun o i wr => ∃ (k : Nat) (acc : List (List UInt8)) (xs : List Value) (o' : Value), o' = o ∧ AllAt bs k acc ∧ i = .int .i64 k ∧ wr.ownsRow w.heap.size 22 1 o' acc.length xs ∧ Rows wr (· < w.heap.size) xs acc ∧ Below w.heap.size w wr) (fun _ i _ => n - (intOf i).toNat)
  case atStart => exact ⟨0, [], [], _, rfl, allAt_zero bs, rfl, World.ownsRow_nil _ _ _ _, trivial, Below.refl _ _⟩
  case round =>
    obtain ⟨k, acc, xs, o', rfl, hat, rfl, hown, hrows, hb⟩ := hrel
    have hkn : k ≤ n := by have := hat.1; rw [HL.out] at this; exact this
    by_cases hlt : k < n
    · obtain ⟨b, o, rfl, _, _⟩ := hr.pos (by rw [length_cb, HL.out]; omega)
      have hrk := (hr.drop k).below hb (Nat.le_refl _)
      rw [cb_drop] at hrk
      have hlk : (bs.drop k).length = n - k := by rw [List.length_drop, HL.out]
      have HLK := Lib.hid hlk; clear hlk
      have hbz := hb.size
      go_wp2_with fail
      refine (ref_first_any _ (n - k) (cap - k) w.heap.size (bs.drop k) _ HLK.out hrk hbz (by omega) (by omega) (by have := HM.out; omega)).mono ?_
      rintro e w1 ⟨a1, cap1, rfl, hr1, hb1⟩
      by_cases hE : fstE (bs.drop k) = 0
      · have hst := allAt_step hat (by rw [HL.out]; exact hlt) hE
        have hfl := fst_len hE
        rw [HLK.out] at hfl
        rw [hE]
        have HST := Lib.hid hst; clear hst hE
        have hal : acc.length ≤ n := Nat.le_trans hat.2.1 hkn
        have hb2 : Below wr.heap.size wr (w1.alloc (.cells #[.slice a1 (fstV (bs.drop k)).length cap1] 22)) := hb1.alloc hb1.size _
        have hown1 := (own_below hown hb1).alloc (.cells #[.slice a1 (fstV (bs.drop k)).length cap1] 22)
        go_wp2_with (at_builtin; refine wpList_append_own_at _ rfl _ _ 34 rfl w.heap.size 22 i0 (.slice none 0 0) 1 24 Tryd.underlying34 hi hz0 hz1 hz2 rfl (by decide) _ _ _ rfl hown1 ⟨_, 0, none⟩ 1 1 [.slice a1 (fstV (bs.drop k)).length cap1] rfl rfl ?c1 ?c2 ?c3 ?c4 ?c5 ?_)
        case c1 => exact cell_new _ _ _
        case c2 => intro u hu; simp at hu; subst hu; rfl
        case c3 => unfold maxLen; omega
        case c4 => omega
        case c5 => have := hb1.size; simp; omega
        intro o3 w3 hown3 hgrow _ _
        have hb3 := (hb.trans (hb2.mono hb.size)).grown hgrow (hb.trans (hb2.mono hb.size)).size (fun j hj => (hown1.lt j hj).1)
        have hbb3 : Below w.heap.size w1 w3 := ((Below.refl w.heap.size w1).alloc (Nat.le_trans hbz hb1.size) _).grown hgrow (by have := hb1.size; simp; omega) (fun j hj => (hown1.lt j hj).1)
        have hrow3 : Rows w3 (· < w.heap.size) (xs ++ [.slice a1 (fstV (bs.drop k)).length cap1]) (acc ++ [fstV (bs.drop k)]) := (hrows.keep (fun _ h => h) (fun _ h => (hbb3.cell h).trans ((hb1.mono hbz).cell h))).append (Rows.one ((hr1.below hbb3 (Nat.le_refl _)).rdS))
        have hl3 : (acc ++ [fstV (bs.drop k)]).length = acc.length + 1 := by simp
        have HL3 := Lib.hid hl3; clear hl3
        go_wp2
        go_roundw
        case rel => exact ⟨k + fstN (bs.drop k), _, _, _, rfl, HST.out, by go_num, by rw [HL3.out]; exact hown3, hrow3, hb3⟩
        case measure => simp [intOf]; omega
      · have hst := allAt_stop hat (by rw [HL.out]; exact hlt) hE
        have HST := Lib.hid hst; clear hst
        have hE' : (fstE (bs.drop k) == 0) = false := by simpa using hE
        have hown1 := own_below hown hb1
        have hrow1 : Rows w1 (fun b => True ∧ b < w1.heap.size) xs acc := hrows.keep (fun _ h => ⟨trivial, Nat.lt_of_lt_of_le h (Nat.le_trans hbz hb1.size)⟩) (fun _ h => (hb1.mono hbz).cell h)
        go_wp2
        go_ret3
        exact allPost_mk HST.out hown1 hrow1 (hb.trans (hb1.mono hb.size))
    · have hst := allAt_end hat (by rw [HL.out]; exact hlt)
      have HST := Lib.hid hst; clear hst
      go_wp2
      go_ret3
      exact allPost_mk HST.out hown (hrows.keep (fun _ h => ⟨trivial, Nat.lt_of_lt_of_le h hb.size⟩) (fun _ _ => rfl)) hb

set_option maxHeartbeats 1000000 in
theorem same_any (a1 a2 : Option Addr) (n c1 c2 B1 B2 : Nat) (S1 S2 : Nat → Prop) (xs ys : List Value) (bss : List (List UInt8)) (w : World) (hl : bss.length = n) (r1 : Rd w B1 a1 xs) (r2 : Rd w B2 a2 ys) (t1 : Rows w S1 xs bss) (t2 : Rows w S2 ys bss) (hn : n ≤ 4194304) :
    Calls Tryd.prog 23 #[.slice a1 n c1, .slice a2 n c2] w fun e w' => e = .returned (.bool true) ∧ Below w.heap.size w w' := by
  have l1 : xs.length = n := t1.length.trans hl
  have l2 : ys.length = n := t2.length.trans hl
  have L1 := Lib.hid l1; clear l1
  have L2 := Lib.hid l2; clear l2
  have HL := Lib.hid hl; clear hl
  go_enter Tryd.func23, Tryd.ntmps23
  go_wp2
  go_loopw [5] (fun i wr => ∃ k : Nat, k ≤ n ∧ i = .int .i64 k ∧ ∃ d, wr = w.drewN d) (fun i _ => n - (intOf i).toNat)
  case atStart => exact ⟨0, Nat.zero_le _, rfl, 0, rfl⟩
  case round =>
    obtain ⟨k, hk, rfl, d, rfl⟩ := hrel
    by_cases hlt : k < n
    · obtain ⟨b1, o1, rfl, _, hc1⟩ := r1.pos (by rw [L1.out]; omega)
      obtain ⟨b2, o2, rfl, _, hc2⟩ := r2.pos (by rw [L2.out]; omega)
      have hck1 := hc1 k (by rw [L1.out]; omega)
      have hck2 := hc2 k (by rw [L2.out]; omega)
      clear hc1 hc2
      obtain ⟨p1, q1, e1, s1⟩ := t1.at k (by rw [L1.out]; omega) (by rw [HL.out]; omega)
      obtain ⟨p2, q2, e2, s2⟩ := t2.at k (by rw [L2.out]; omega) (by rw [HL.out]; omega)
      rw [e1] at hck1
      rw [e2] at hck2
      clear e1 e2
      obtain ⟨G1, s1⟩ := s1.rd_any
      obtain ⟨G2, s2⟩ := s2.rd_any
      generalize (bss[k]'(by rw [HL.out]; omega)) = x at *
      generalize hx : x.length = m at *
      have hcv1 := fun (j c : Nat) => run_string_of (P := Tryd.prog) (s1.drewN j) 22 9 5 m c hx Tryd.underlying22 Tryd.underlying5 Tryd.underlying9
      have hcv2 := fun (j c : Nat) => run_string_of (P := Tryd.prog) (s2.drewN j) 22 9 5 m c hx Tryd.underlying22 Tryd.underlying5 Tryd.underlying9
      have HX := Lib.hid hx; clear hx
      have k0 : (0 : Int) ≤ (k : Int) := by omega
      have k1 : (k : Int) < (n : Int) := by omega
      go_wp2_with fail
      go_quiet (fail)
      go_wp2
      go_roundw
      case rel => exact ⟨k + 1, by omega, by go_num, _, rfl⟩
      case measure => simp [intOf]; omega
    · go_wp2
      go_ret
      exact ⟨rfl, below_drewN (Below.refl _ _) _⟩
end Go.Proofs.YtckapnaiehkieaaDoor
