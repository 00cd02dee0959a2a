/-
  The document's answer for layer 4, by contract: Put, Drop, With, Without, Both, Common.
-/
import Derived.Test.YtdoieefkpafgcaaSetsA
import Derived.Test.YtdoieefkpafgcaaSetsD
namespace Go.Proofs.Ytdoieefkpafgcaa
open Go.RowKit

theorem dif_take_in {s : List Int} {n : Int} {k : Nat} (h : k < s.length) (hm : ¬ s[k] = n) : dif (s.take (k + 1)) n = dif (s.take k) n ++ [s[k]] := by
  unfold dif
  rw [List.take_succ_eq_append_getElem h, List.filter_append]
  simp [hm]
theorem dif_take_out {s : List Int} {n : Int} {k : Nat} (h : k < s.length) (hm : s[k] = n) : dif (s.take (k + 1)) n = dif (s.take k) n := by
  unfold dif
  rw [List.take_succ_eq_append_getElem h, List.filter_append]
  simp [hm]
theorem length_dif_le {s : List Int} {n : Int} {k : Nat} : (dif (s.take k) n).length ≤ k := Nat.le_trans (length_dif _ _) (List.length_take_le _ _)
theorem com_take_in {s t : List Int} {k : Nat} (h : k < s.length) (hm : decide (s[k] ∈ t) = true) : com (s.take (k + 1)) t = com (s.take k) t ++ [s[k]] := by
  unfold com
  rw [List.take_succ_eq_append_getElem h, List.filter_append]
  simp only [decide_eq_true_eq] at hm
  simp [hm]
theorem com_take_out {s t : List Int} {k : Nat} (h : k < s.length) (hm : decide (s[k] ∈ t) = false) : com (s.take (k + 1)) t = com (s.take k) t := by
  unfold com
  rw [List.take_succ_eq_append_getElem h, List.filter_append]
  simp only [decide_eq_false_iff_not] at hm
  simp [hm]
theorem length_com_le {s t : List Int} {k : Nat} : (com (s.take k) t).length ≤ k := Nat.le_trans (length_com _ _) (List.length_take_le _ _)

/-- One number laid behind a row of ints of the call's own. -/
def Row1 (w : World) (L : List Int) (e : Ending) (w' : World) : Prop := ∃ o, e = .returned o ∧ w'.ownsRow w.heap.size 3 1 o L.length (ci L) ∧ Below w.heap.size w w'

theorem putAt_len {n : Int} {s acc : List Int} {i : Nat} {b : Bool} (h : PutAt n s acc i b) : acc.length ≤ s.length + 1 := by
  rcases h with ⟨_, h⟩ | ⟨_, rfl, _⟩
  · have h1 := congrArg List.length h
    have h2 := length_ins_le (n := n) s
    simp at h1; omega
  · simp; omega

set_option maxHeartbeats 2000000 in
theorem ref_put_any (a : Option Addr) (n c B : Nat) (xs : List Int) (v : Int) (w : World) (hup : Up xs) (hl : xs.length = n) (hr : Rd w B a (ci xs)) (hB : B ≤ w.heap.size) (hn : n ≤ 1000) :
    Calls Try.prog 22 #[.slice a n c, .int .i64 v] w (Row1 w (ins v xs)) := by
  obtain ⟨i0, hi, hz0, hz1, hz2⟩ := info_parts info_num
  have HL := Lib.hid hl; clear hl
  have hp0 : PutAt v xs [] 0 (decide (v ∈ xs)) := by
    by_cases h : v ∈ xs
    · rw [decide_eq_true h]; exact putAt_in hup h
    · rw [decide_eq_false h]; exact putAt_out h
  have HP0 := Lib.hid hp0; clear hp0 hup
  go_enter Try.func22, Try.ntmps22
  go_wp2_with fail
  refine (ref_has_any a n c B xs v w HL.out hr (by unfold maxLen; omega)).mono ?_
  rintro e w' ⟨rfl, rfl⟩
  generalize decide (v ∈ xs) = b0 at *
  go_wp2_with fail
  go_loopw [5, 6, 7] (fun o f i wr => ∃ (k : Nat) (acc : List Int) (b : Bool) (o' : Value), o' = o ∧ k ≤ n ∧ f = .bool b ∧ i = .int .i64 k ∧ Hid (PutAt v xs acc k b) ∧ wr.ownsRow w.heap.size 3 1 o' acc.length (ci acc) ∧ Below w.heap.size w wr) (fun _ _ i _ => n - (intOf i).toNat)
  case atStart => exact ⟨0, [], b0, _, rfl, Nat.zero_le _, rfl, rfl, HP0, World.ownsRow_nil _ _ _ _, Below.refl _ _⟩
  case round =>
    obtain ⟨k, acc, b, o', rfl, hk, rfl, rfl, hat, hown, hb⟩ := hrel
    have hal := putAt_len hat.out
    rw [HL.out] at hal
    by_cases hlt : k < n
    · obtain ⟨bb, o, rfl, hB1, hc⟩ := hr.pos (by rw [length_ci, HL.out]; omega)
      have hck := (hb.cell (p := ⟨bb, o + k, none⟩) (Nat.lt_of_lt_of_le hB1 hB)).trans (hc k (by rw [length_ci, HL.out]; omega))
      rw [ci_get] at hck
      clear hc
      have lk : k < xs.length := by rw [HL.out]; exact hlt
      have k0 : (0 : Int) ≤ (k : Int) := by omega
      have k1 : (k : Int) < (n : Int) := by omega
      cases b with
      | true =>
        have hst := putAt_more hat.out lk
        have hsl := putAt_len hst
        rw [HL.out, List.length_append] at hsl
        have HST := Lib.hid hst; clear hst
        generalize xs[k] = x at *
        go_wp2_with (at_builtin; refine wpList_append_own _ rfl _ _ 37 rfl w.heap.size 3 i0 (.int .i64 0) 1 8 Try.underlying37 hi hz0 hz1 hz2 rfl (by decide) _ _ _ rfl (hown.alloc _) ⟨_, 0, none⟩ 1 1 [.int .i64 x] rfl rfl ?c1 ?c2 ?c3 ?c4 ?c5 ?_)
        case c1 => exact cell_one _ _ _
        case c2 => intro u hu; simp at hu; subst hu; rfl
        case c3 => unfold maxLen; omega
        case c4 => omega
        case c5 => have := hb.size; simp; omega
        intro o3 w3 hown3 hgrow _
        have hb3 := (hb.alloc hb.size (.cells #[.int .i64 x] 3)).grown hgrow (by have := hb.size; simp; omega) (fun j hj => (hown.lt j hj).1)
        have hown4 : w3.ownsRow w.heap.size 3 1 o3 (acc ++ [x]).length (ci (acc ++ [x])) := by
          rw [ci_append, List.length_append]; exact hown3
        clear hown3
        go_wp2
        go_roundw
        case rel => exact ⟨k + 1, _, true, _, rfl, by omega, rfl, by go_num, HST, hown4, hb3⟩
        case measure => simp [intOf]; omega
      | false =>
        have hhere := fun h => putAt_here hat.out lk h
        have hpast := fun h => putAt_past hat.out lk h
        generalize xs[k] = x at *
        by_cases hvx : v < x
        · have hst := hhere hvx
          have hsl := putAt_len hst
          rw [HL.out, List.length_append, List.length_append] at hsl
          have HST := Lib.hid hst; clear hst hhere hpast
          go_wp2_with (at_builtin; refine wpList_append_own _ rfl _ _ 37 rfl w.heap.size 3 i0 (.int .i64 0) 1 8 Try.underlying37 hi hz0 hz1 hz2 rfl (by decide) _ _ _ rfl (hown.alloc _) ⟨_, 0, none⟩ 1 1 [.int .i64 v] rfl rfl ?d1 ?d2 ?d3 ?d4 ?d5 ?_)
          case d1 => exact cell_one _ _ _
          case d2 => intro u hu; simp at hu; subst hu; rfl
          case d3 => unfold maxLen; omega
          case d4 => omega
          case d5 => have := hb.size; simp; omega
          intro o3 w3 hown3 hgrow _
          have hb3 := (hb.alloc hb.size (.cells #[.int .i64 v] 3)).grown hgrow (by have := hb.size; simp; omega) (fun j hj => (hown.lt j hj).1)
          have hck3 := (hb3.cell (p := ⟨bb, o + k, none⟩) (Nat.lt_of_lt_of_le hB1 hB)).trans ((hb.cell (p := ⟨bb, o + k, none⟩) (Nat.lt_of_lt_of_le hB1 hB)).symm.trans hck)
          go_wp2_with (at_builtin; refine wpList_append_own _ rfl _ _ 37 rfl w.heap.size 3 i0 (.int .i64 0) 1 8 Try.underlying37 hi hz0 hz1 hz2 rfl (by decide) _ _ _ rfl (hown3.alloc _) ⟨_, 0, none⟩ 1 1 [.int .i64 x] rfl rfl ?e1 ?e2 ?e3 ?e4 ?e5 ?_)
          case e1 => exact cell_one _ _ _
          case e2 => intro u hu; simp at hu; subst hu; rfl
          case e3 => unfold maxLen; omega
          case e4 => omega
          case e5 => have := hb3.size; simp; omega
          intro o5 w5 hown5 hgrow5 _
          have hb5 := (hb3.alloc hb3.size (.cells #[.int .i64 x] 3)).grown hgrow5 (by have := hb3.size; simp; omega) (fun j hj => (hown3.lt j hj).1)
          have hown6 : w5.ownsRow w.heap.size 3 1 o5 (acc ++ [v] ++ [x]).length (ci (acc ++ [v] ++ [x])) := by
            rw [ci_append, List.length_append, ci_append, List.length_append, List.append_assoc]; exact hown5
          clear hown3 hown5
          go_wp2
          go_roundw
          case rel => exact ⟨k + 1, _, true, _, rfl, by omega, rfl, by go_num, HST, hown6, hb5⟩
          case measure => simp [intOf]; omega
        · have hst := hpast hvx
          have hsl := putAt_len hst
          rw [HL.out, List.length_append] at hsl
          have HST := Lib.hid hst; clear hst hhere hpast
          go_wp2_with (at_builtin; refine wpList_append_own _ rfl _ _ 37 rfl w.heap.size 3 i0 (.int .i64 0) 1 8 Try.underlying37 hi hz0 hz1 hz2 rfl (by decide) _ _ _ rfl (hown.alloc _) ⟨_, 0, none⟩ 1 1 [.int .i64 x] rfl rfl ?pp1 ?pp2 ?pp3 ?pp4 ?pp5 ?_)
          case pp2 => first | rfl | (intro u hu; simp at hu; subst hu; rfl)
          case pp3 => unfold maxLen; omega
          case pp4 => omega
          case pp5 => have := hb.size; simp; omega
          intro o3 w3 hown3 hgrow _
          have hb3 := (hb.alloc hb.size (.cells #[.int .i64 x] 3)).grown hgrow (by have := hb.size; simp; omega) (fun j hj => (hown.lt j hj).1)
          have hown4 : w3.ownsRow w.heap.size 3 1 o3 (acc ++ [x]).length (ci (acc ++ [x])) := by
            rw [ci_append, List.length_append]; exact hown3
          clear hown3
          go_wp2
          go_roundw
          case rel => exact ⟨k + 1, _, false, _, rfl, by omega, rfl, by go_num, HST, hown4, hb3⟩
          case measure => simp [intOf]; omega
    · cases b with
      | true =>
        have HD := Lib.hid (putAt_done hat.out (by rw [HL.out]; exact hlt))
        go_wp2
        go_ret
        exact ⟨_, rfl, by rw [← HD.out]; exact hown, hb⟩
      | false =>
        have HD := Lib.hid (putAt_last hat.out (by rw [HL.out]; exact hlt))
        go_wp2_with (at_builtin; refine wpList_append_own _ rfl _ _ 37 rfl w.heap.size 3 i0 (.int .i64 0) 1 8 Try.underlying37 hi hz0 hz1 hz2 rfl (by decide) _ _ _ rfl (hown.alloc _) ⟨_, 0, none⟩ 1 1 [.int .i64 v] rfl rfl ?g1 ?g2 ?g3 ?g4 ?g5 ?_)
        case g1 => exact cell_one _ _ _
        case g2 => intro u hu; simp at hu; subst hu; rfl
        case g3 => unfold maxLen; omega
        case g4 => omega
        case g5 => have := hb.size; simp; omega
        intro o3 w3 hown3 hgrow _
        have hb3 := (hb.alloc hb.size (.cells #[.int .i64 v] 3)).grown hgrow (by have := hb.size; simp; omega) (fun j hj => (hown.lt j hj).1)
        have hown4 : w3.ownsRow w.heap.size 3 1 o3 (ins v xs).length (ci (ins v xs)) := by
          rw [← HD.out, ci_append, List.length_append]; exact hown3
        clear hown3
        go_wp2
        go_ret
        exact ⟨_, rfl, hown4, hb3⟩
end Go.Proofs.Ytdoieefkpafgcaa
