/-
  The heap's own methods over the program's clock, by contract: Push, walked.
-/
import Derived.Test.YtpepmjkkckgkkaaAlarmL3
import Derived.Deep.AppendLies
namespace Go.Proofs.Ytpepmjkkckgkkaa
open Go.RowKit

set_option maxRecDepth 100000 in
theorem mark_told (u v : Value) (w : World) : (Instr.typeAssert (.iface 56 (.agg #[u, v])) 20 56 false).run Try.prog w = .ok (.agg #[u, v]) w := by kernel_rfl

theorem map_none (w : World) : (binOp .eql 47 (.map none) (.map none)).run Try.prog w = .ok (.bool true) w := by kernel_rfl
theorem map_some (b : Nat) (w : World) : (binOp .eql 47 (.map (some b)) (.map none)).run Try.prog w = .ok (.bool false) w := by kernel_rfl

set_option maxHeartbeats 1000000 in
theorem line_push (w : World) (F : Nat → Prop) (c : Nat) (L : List Due) (x : Due) (h : Held w F c L) (hx : I64 x.2) (hno : ∀ y ∈ L, y.2 ≠ x.2) (hl : L.length ≤ 100000) :
    Calls Try.prog 47 #[.pointer (some ⟨c, 0, none⟩), .iface 56 (.agg #[.int .i64 x.2, .int .i64 x.1])] w fun e w' => e = .returned (.tuple #[]) ∧ ∃ F', Held w' F' c (L ++ [x]) ∧ Moved F F' w w' := by
  obtain ⟨i0, hi, hz0, hz1, hz2⟩ := info_parts markInfo
  obtain ⟨v, mv, h⟩ := h
  obtain ⟨c0, c1⟩ := h.cells
  have hcl : c < w.heap.size := h.lt c h.fc
  have hmk := @run_makeMap Try.prog
  have hta := mark_told
  have hn1 := map_none
  have hn2 := map_some
  obtain ⟨t, y⟩ := x
  simp only at *
  rcases h.map with ⟨rfl, _⟩ | ⟨b, _, rfl, _⟩
  · obtain ⟨hL, hmid, hmv, hbx⟩ := mid_new h (.cells #[.int .i64 y, .int .i64 t] 56)
    have hpp : Plc ((DataW.map []).put (key y) (.lit (key (L.length : Int)))) (L ++ [(t, y)]) := by
      rw [hL]
      exact Plc.nil.push (x := (t, y)) (fun _ h => by cases h) hx
    have hsz := hpp.size
    rw [List.length_append, List.length_singleton] at hsz
    have hmf : ¬ Also F (w.heap.size + 1) w.heap.size := fun hf => by
      rcases hf with hf | hf
      · exact absurd (h.lt _ hf) (by omega)
      · omega
    have HMF := Lib.hid hmf
    have z1 := frozen_of_row w c 1 _ _ h.box
    obtain ⟨a, cap, rfl, _, _⟩ := h.slice
    have HP := Lib.hid hpp
    have HM0 := Lib.hid hmid
    have HS := Lib.hid hsz
    have HB := Lib.hid hbx
    have HMV := Lib.hid hmv
    clear hpp hmid hsz hbx hmv hL h hno hmf
    generalize hn : L.length = n at *
    have HN := Lib.hid hn
    clear hn
    go_enter Try.func47, Try.ntmps47
    go_wp2_with fail
    clear c0 c1
    generalize World.alloc (World.alloc (World.setCell w _ _) _) _ = w0 at *
    generalize w.heap.size + 1 = b at *
    generalize w.heap.size = m at *
    generalize DataW.map [] = D at *
    generalize Also F b = F1 at *
    have c0 := box_at HM0.out.box 0 rfl
    have c1 := box_at HM0.out.box 1 rfl
    have b0 := box_at HB.out 0 rfl
    have b1 := box_at HB.out 1 rfl
    obtain ⟨w1, hr1, h1, m1⟩ := (HM0.out.keep (w' := w0.drew) Keeps.refl.drew).put HN.out hx (Nat.le_of_eq HS.out)
    go_big_region
    have HB1 := Lib.hid (m1.1.row HB.out HMF.out)
    have HM1 := Lib.hid h1
    have HV1 := Lib.hid ((HMV.out.trans (Moved.drewN (w := w0) 1)).trans m1)
    clear hr1 m1 c0 c1 b0 b1 HM0 HMV HB HS h1
    have c0 := box_at HM1.out.box 0 rfl
    have zc := frozen_of_row w1 c 0 _ _ HM1.out.box
    have b0 := box_at HB1.out 0 rfl
    have b1 := box_at HB1.out 1 rfl
    have howno := (HM1.out.own.alloc (.cells #[.int .i64 y, .int .i64 t] 56)).drew
    rw [HN.out] at howno
    have HOWN := Lib.hid howno
    have HNC := Lib.hid (cells_two w1 (.int .i64 y) (.int .i64 t) 56)
    have HON : Hid (∀ u ∈ [Value.int .i64 y, Value.int .i64 t], u.oneCell' = true) := Lib.hid (by intro u hu; simp at hu; rcases hu with rfl | rfl <;> rfl)
    have HK1 : Hid (n + 1 ≤ maxLen) := Lib.hid (by unfold maxLen; omega)
    have HK2 : Hid ((n + 1) * 16 ≤ 140737488355328) := Lib.hid (by omega)
    have HL := Lib.hid hl
    have HX := Lib.hid hx
    have hcw : c < w1.heap.size := HM1.out.lt c HM1.out.fc
    have hmw : m < w1.heap.size := lt_of_block HB1.out
    clear howno hl hx
    go_wp2_with fail
    go_region_law (refine step_append_lies _ rfl (.tmp 31) (.tmp 33) 46 rfl 0 56 i0 (.agg #[.int .i64 0, .int .i64 0]) 2 16 Try.underlying46 hi hz0 hz1 hz2 rfl (by omega) (.slice a n cap) n (its L) rfl HOWN.out ⟨w1.heap.size, 0, none⟩ 1 1 [.int .i64 y, .int .i64 t] rfl rfl HNC.out HON.out (by omega) HK1.out HK2.out (Nat.zero_le _) (w1.heap.size + 1) (by simp) ?_
                   intro g cap2 w2 hown2 hg2 hat2 hlt2
                   obtain ⟨p0, pz, hheld, hmv2⟩ := mid_push HM1.out HN.out HL.out HP.out hown2 hg2 hat2 hlt2
                   have HH := Lib.hid hheld
                   have HW := Lib.hid hmv2
                   clear hheld hmv2 hown2 hg2 hat2 hlt2)
    all_goals
      go_wp2_with fail
      refine bodyPost_end (results_none rfl _ _ _) rfl ?_
      exact ⟨rfl, _, HH.out, HV1.out.trans HW.out⟩
  · obtain ⟨D, hmid, hp⟩ := mid_of h
    obtain ⟨a, cap, rfl, _, _⟩ := h.slice
    have hmf : ¬ F w.heap.size := fun hf => absurd (h.lt _ hf) (by omega)
    have HMF := Lib.hid hmf
    clear h hmf
    have hm0 := hmid.keep (Keeps.of_below ((Below.refl _ w).alloc (Nat.le_refl _) (.cells #[.int .i64 y, .int .i64 t] 56)) hmid.lt)
    have hmv : Moved F F w (w.alloc (.cells #[.int .i64 y, .int .i64 t] 56)) := Moved.of_below ((Below.refl _ w).alloc (Nat.le_refl _) _)
    have hbx : (w.alloc (.cells #[.int .i64 y, .int .i64 t] 56)).heap[w.heap.size]? = some (.cells #[.int .i64 y, .int .i64 t] 56 (0, 0)) := heap_alloc_new w _
    have hpp := hp.push (x := (t, y)) hno hx
    have hsz := hpp.size
    rw [List.length_append, List.length_singleton] at hsz
    have HP := Lib.hid hpp
    have HM0 := Lib.hid hm0
    have HS := Lib.hid hsz
    have HB := Lib.hid hbx
    have HMV := Lib.hid hmv
    clear hp hpp hmid hsz hbx hm0 hno hmv
    generalize hn : L.length = n at *
    have HN := Lib.hid hn
    clear hn
    go_enter Try.func47, Try.ntmps47
    go_wp2_with fail
    clear c0 c1
    generalize World.alloc w _ = w0 at *
    generalize w.heap.size = m at *
    have c0 := box_at HM0.out.box 0 rfl
    have c1 := box_at HM0.out.box 1 rfl
    have b0 := box_at HB.out 0 rfl
    have b1 := box_at HB.out 1 rfl
    obtain ⟨w1, hr1, h1, m1⟩ := (HM0.out.keep (w' := w0.drew) Keeps.refl.drew).put HN.out hx (Nat.le_of_eq HS.out)
    go_big_region
    have HB1 := Lib.hid (m1.1.row HB.out HMF.out)
    have HM1 := Lib.hid h1
    have HV1 := Lib.hid ((HMV.out.trans (Moved.drewN (w := w0) 1)).trans m1)
    clear hr1 m1 c0 c1 b0 b1 HM0 HMV HB HS h1
    have c0 := box_at HM1.out.box 0 rfl
    have zc := frozen_of_row w1 c 0 _ _ HM1.out.box
    have b0 := box_at HB1.out 0 rfl
    have b1 := box_at HB1.out 1 rfl
    have howno := (HM1.out.own.alloc (.cells #[.int .i64 y, .int .i64 t] 56)).drew
    rw [HN.out] at howno
    have HOWN := Lib.hid howno
    have HNC := Lib.hid (cells_two w1 (.int .i64 y) (.int .i64 t) 56)
    have HON : Hid (∀ u ∈ [Value.int .i64 y, Value.int .i64 t], u.oneCell' = true) := Lib.hid (by intro u hu; simp at hu; rcases hu with rfl | rfl <;> rfl)
    have HK1 : Hid (n + 1 ≤ maxLen) := Lib.hid (by unfold maxLen; omega)
    have HK2 : Hid ((n + 1) * 16 ≤ 140737488355328) := Lib.hid (by omega)
    have HL := Lib.hid hl
    have HX := Lib.hid hx
    have hcw : c < w1.heap.size := HM1.out.lt c HM1.out.fc
    have hmw : m < w1.heap.size := lt_of_block HB1.out
    clear howno hl hx
    go_wp2_with fail
    go_region_law (refine step_append_lies _ rfl (.tmp 31) (.tmp 33) 46 rfl 0 56 i0 (.agg #[.int .i64 0, .int .i64 0]) 2 16 Try.underlying46 hi hz0 hz1 hz2 rfl (by omega) (.slice a n cap) n (its L) rfl HOWN.out ⟨w1.heap.size, 0, none⟩ 1 1 [.int .i64 y, .int .i64 t] rfl rfl HNC.out HON.out (by omega) HK1.out HK2.out (Nat.zero_le _) (w1.heap.size + 1) (by simp) ?_
                   intro g cap2 w2 hown2 hg2 hat2 hlt2
                   obtain ⟨p0, pz, hheld, hmv2⟩ := mid_push HM1.out HN.out HL.out HP.out hown2 hg2 hat2 hlt2
                   have HH := Lib.hid hheld
                   have HW := Lib.hid hmv2
                   clear hheld hmv2 hown2 hg2 hat2 hlt2)
    all_goals
      go_wp2_with fail
      refine bodyPost_end (results_none rfl _ _ _) rfl ?_
      exact ⟨rfl, _, HH.out, HV1.out.trans HW.out⟩
end Go.Proofs.Ytpepmjkkckgkkaa
