/-
  Layer 7, the program, by contract: columnsMayBe.
-/
import Derived.Test.YtkghkioghkapcaaObpD
namespace Go.Proofs.Ytkghkioghkapcaa
open Go.RowKit Go.Sort Go.Shelf

set_option maxRecDepth 100000 in
set_option maxHeartbeats 4000000 in
theorem prog_columns_any (a : Option Addr) (n c B : Nat) (l : List Col) (w : World) (h : Lst w (· < B) colP 3 (.slice a n c) l) (hB : B ≤ w.heap.size) :
    Calls Try.prog 73 #[.slice a n c] w fun e w' => e = .returned (.bool (colsB l)) ∧ Gr w w' := by
  have mixed := mixed_ok
  obtain ⟨hl, hc, hm⟩ := h.len
  unfold maxLen at hm
  have HL := Lib.hid hl
  by_cases h18 : 1 ≤ n ∧ n ≤ 8
  · have hyes : (∀ k, k < n → colsAt l k = true) → colsB l = true := fun h => by
      unfold colsB; rw [hl, decide_eq_true h18, all_range_iff.2 h]; rfl
    have hno : ∀ k, k < n → colsAt l k = false → colsB l = false := fun k hk hf => by
      unfold colsB; rw [hl, all_range_no hk hf, Bool.and_false]
    have HY := Lib.hid hyes; have HNO := Lib.hid hno
    obtain ⟨g1, g2⟩ := h18
    have g3 : ((n : Int) == 0) = false := by rw [beq_eq_false_iff_ne]; omega
    clear hyes hno hl
    have HH := Lib.hid h; clear h
    go_enter Try.func73, Try.ntmps73
    go_wp2_with fail
    go_loopw [3, 4, 15] (fun _ _ i wr => ∃ k : Nat, k ≤ n ∧ i = .int .i64 k ∧ Hid (∀ j, j < k → colsAt l j = true) ∧ Gr w wr) (fun _ _ i _ => n - (intOf i).toNat)
    case atStart => exact ⟨0, Nat.zero_le _, rfl, Lib.hid (fun _ h => by omega), Gr.refl _⟩
    case round =>
      obtain ⟨k, hk, rfl, hn, hbw⟩ := hrel
      by_cases hlt : k < n
      · have lk : k < l.length := by rw [HL.out]; exact hlt
        obtain ⟨b, o, x, rfl, hbB, hx, hcl⟩ := HH.out.at lk
        have hat := colsAt_get lk
        have hal := Gr.alloc wr (.cells #[.string l[k].name, .int .i64 l[k].kind, .bool l[k].null] 41)
        have HTK := Lib.hid (fun (W : World) (hW : Gr (wr.alloc (.cells #[.string l[k].name, .int .i64 l[k].kind, .bool l[k].null] 41)) W) => (prog_colplace_any B (some ⟨b, o, none⟩) k c (l.take k) l[k].name W (cols_keep (HH.out.take hk) (fun _ h => h) (((hbw.trans hal).trans hW).keeps fun j hj => Nat.lt_of_lt_of_le hj hB)) (Nat.le_trans hB ((hbw.trans hal).trans hW).below.size)))
        have hno := HNO.out k hlt
        have hst := fun h => upto_succ hn.out h
        have k0 : (0 : Int) ≤ (k : Int) := by omega
        have k1 : (k : Int) < (n : Int) := by omega
        have k2 : (k : Int) ≤ (c : Int) := by omega
        have hge := idxI_ge (fun c => eqT c.name l[k].name) (l.take k)
        have hge' : -1 ≤ colI (l.take k) l[k].name := hge
        have hbl : b < w.heap.size := Nat.lt_of_lt_of_le hbB hB
        have hcw : ∀ j u, x[j]? = some u → wr.cell? ⟨b, o + k * 3 + j, none⟩ = some u := fun j u hj => (hbw.below.cell (p := ⟨b, o + k * 3 + j, none⟩) hbl).trans (hcl j u hj)
        have hbx : ∀ (j : Nat) u, ([.string l[k].name, .int .i64 l[k].kind, .bool l[k].null] : List Value)[j]? = some u → (wr.alloc (.cells #[.string l[k].name, .int .i64 l[k].kind, .bool l[k].null] 41)).cell? ⟨wr.heap.size, j, none⟩ = some u := fun j u hj => by
          rw [cell_of_row _ _ _ _ _ _ (heap_alloc_new wr _)]
          simpa using hj
        have hp1 : wr.heap.size < (wr.alloc (.cells #[.string l[k].name, .int .i64 l[k].kind, .bool l[k].null] 41)).heap.size := by simp
        clear hcl hge
        generalize hcol : l[k] = col at *
        clear hcol
        obtain rfl : x = [.string col.name, .int .i64 col.kind, .bool col.null] := hx
        have r0 := hcw 0 _ rfl
        rw [Nat.add_zero] at r0
        have r1 := hcw 1 _ rfl
        have r2 := hcw 2 _ rfl
        have c0 := fun n' os => cell_grown (a := ⟨wr.heap.size, 0, none⟩) hp1 (hbx 0 _ rfl) n' os
        have c1 := fun n' os => cell_grown (a := ⟨wr.heap.size, 1, none⟩) hp1 (hbx 1 _ rfl) n' os
        have c2 := fun n' os => cell_grown (a := ⟨wr.heap.size, 2, none⟩) hp1 (hbx 2 _ rfl) n' os
        have hld := load_three (P := Try.prog) (b := wr.heap.size) (o := 0) hp1 (hbx 0 _ rfl) (hbx 1 _ rfl) (hbx 2 _ rfl)
        have HO := Lib.hid (prog_one_any col)
        have HBW := Lib.hid (hbw.trans hal)
        clear hbx hcw hn hal hbw
        go_wp2_with fail
        clear r0 r1 r2
        generalize hp : wr.heap.size = p at *
        generalize World.alloc wr _ = w1 at *
        clear hp
        cases hone : oneB col with
        | false =>
          rw [hone] at HO hat
          have HF := Lib.hid (hno hat)
          clear hat hno hst hone
          refine Go.wp_region_quiet_grown mixed (by kernel_rfl) ?_
          repeat (go_big_quiet_step (first | (go_at_call 83; exact gr_call HO.out)))
          refine Go.wpQuiet_nil ?_
          intro _ hw'
          obtain ⟨⟨nq, osq⟩, hw''⟩ := hw'
          subst hw''
          go_wp2_with fail
          go_ret
          exact ⟨by rw [HF.out]; rfl, HBW.out.trans (Gr.grown _ _ _)⟩
        | true =>
          rw [hone, Bool.true_and] at hat
          rw [hone] at HO
          clear hone
          generalize colI (l.take k) col.name = q at *
          by_cases hq : q < 0
          · have HS := Lib.hid (hst (by rw [hat]; exact decide_eq_true hq))
            have hq0 : (q == -1) = true := by rw [beq_iff_eq]; omega
            have hq1 : (q != -1) = false := by rw [bne_eq_false_iff_eq]; omega
            obtain rfl : q = -1 := by omega
            clear hat hno hst
            refine Go.wp_region_quiet_grown mixed (by kernel_rfl) ?_
            repeat (go_big_quiet_step (first
              | (go_at_call 83; exact gr_call HO.out)
              | (go_at_call 84; exact gr_from HTK.out)))
            refine Go.wpQuiet_nil ?_
            intro _ hw'
            obtain ⟨⟨nq, osq⟩, hw''⟩ := hw'
            subst hw''
            go_wp2_with fail
            go_roundw
            case rel => exact ⟨k + 1, by omega, by go_num, HS, HBW.out.trans (Gr.grown _ _ _)⟩
            case measure => simp [intOf]; omega
          · have HF := Lib.hid (hno (by rw [hat]; exact decide_eq_false hq))
            have hq0 : (q == -1) = false := by rw [beq_eq_false_iff_ne]; omega
            have hq1 : (q != -1) = true := by rw [bne_iff_ne]; omega
            clear hat hno hst
            refine Go.wp_region_quiet_grown mixed (by kernel_rfl) ?_
            repeat (go_big_quiet_step (first
              | (go_at_call 83; exact gr_call HO.out)
              | (go_at_call 84; exact gr_from HTK.out)))
            refine Go.wpQuiet_nil ?_
            intro _ hw'
            obtain ⟨⟨nq, osq⟩, hw''⟩ := hw'
            subst hw''
            go_wp2_with fail
            go_ret
            exact ⟨by rw [HF.out]; rfl, HBW.out.trans (Gr.grown _ _ _)⟩
      · have HF := Lib.hid (HY.out fun j hj => hn.out j (by omega))
        go_wp2_with fail
        go_ret
        exact ⟨by rw [HF.out]; rfl, hbw⟩
  · have hf : colsB l = false := by unfold colsB; rw [hl, decide_eq_false h18]; rfl
    have HF := Lib.hid hf
    clear hf h hl
    by_cases h0 : n = 0
    · have i0 : ((n : Int) == 0) = true := by rw [beq_iff_eq]; omega
      have i1 : (n : Int) = 0 := by omega
      clear h0
      go_enter Try.func73, Try.ntmps73
      go_wp2_with fail
      all_goals (first | (exfalso; omega) | (go_ret; exact ⟨by rw [HF.out]; rfl, Gr.refl _⟩))
    · have i0 : ((n : Int) == 0) = false := by rw [beq_eq_false_iff_ne]; omega
      have i1 : (8 : Int) < (n : Int) := by omega
      go_enter Try.func73, Try.ntmps73
      go_wp2_with fail
      all_goals (first | (exfalso; omega) | (go_ret; exact ⟨by rw [HF.out]; rfl, Gr.refl _⟩))
end Go.Proofs.Ytkghkioghkapcaa
