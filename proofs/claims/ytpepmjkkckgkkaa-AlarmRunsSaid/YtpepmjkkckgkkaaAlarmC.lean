/-
  The document's clock, by contract: Set.
-/
import Derived.Test.YtpepmjkkckgkkaaAlarmB
namespace Go.Proofs.Ytpepmjkkckgkkaa
open Go.RowKit

set_option maxHeartbeats 4000000 in
theorem ref_set_any (b : Nat) (G : Nat → Prop) (S : List Due) (id t : Int) (w : World) (h : Rf w b G S) (hn : S.length ≤ 100000) :
    Calls Try.prog 9 #[.pointer (some ⟨b, 0, none⟩), .int .i64 id, .int .i64 t] w fun e w' => e = .returned (.tuple #[]) ∧ Rf w' b (fun k => w.heap.size ≤ k ∧ k < w'.heap.size) (setD id t S) ∧ Keeps (· ≠ b) w w' := by
  obtain ⟨i0, hi, hz0, hz1, hz2⟩ := info_parts itemInfo
  have hbl : b < w.heap.size := by obtain ⟨_, _, hc, _⟩ := h; exact World.block_lt_of_cell? w _ hc
  have hl1 := length_offD_le id S
  go_enter Try.func9, Try.ntmps9
  go_wp2_with fail
  refine (without_any b G S id w h hn).mono ?_
  rintro e w1 ⟨rfl, hr1, hk1⟩
  have hsz1 := hk1.size
  generalize hG1 : (fun k => w.heap.size ≤ k ∧ k < w1.heap.size) = G1 at hr1
  have HGL : ∀ k, G1 k → w.heap.size ≤ k := by intro k hk; rw [← hG1] at hk; exact hk.1
  clear hG1
  have hset : setD id t S = insD (t, id) (offD id S) := rfl
  clear h
  generalize offD id S = S1 at *
  have HSET := Lib.hid hset; clear hset
  obtain ⟨a1, c1', hcell1, hfz1, hrd1, hGb1, hc1⟩ := hr1
  have hbl1 : b < w1.heap.size := Nat.lt_of_lt_of_le hbl hsz1
  obtain ⟨n1, hn1⟩ : ∃ n1, S1.length = n1 := ⟨_, rfl⟩
  rw [hn1] at hcell1 hl1
  have HL := Lib.hid hn1
  clear hn1
  have hk2 : Keeps (· ≠ b) w (w1.alloc (.cells #[.int .i64 id, .int .i64 t] 60)) := hk1.alloc _
  have x0 : (w1.alloc (.cells #[.int .i64 id, .int .i64 t] 60)).cell? ⟨w1.heap.size, 0, none⟩ = some (.int .i64 id) := by rw [cell_of_row _ _ _ _ _ _ (heap_alloc_new w1 _)]; rfl
  have x1 : (w1.alloc (.cells #[.int .i64 id, .int .i64 t] 60)).cell? ⟨w1.heap.size, 1, none⟩ = some (.int .i64 t) := by rw [cell_of_row _ _ _ _ _ _ (heap_alloc_new w1 _)]; rfl
  have xs : w1.heap.size < (w1.alloc (.cells #[.int .i64 id, .int .i64 t] 60)).heap.size := by simp
  have y0 : (w1.alloc (.cells #[.int .i64 id, .int .i64 t] 60)).cell? ⟨b, 0, none⟩ = some (.slice a1 n1 c1') := by rw [World.cell?_of_block (heap_alloc_old w1 _ hbl1)]; exact hcell1
  have y1 : (w1.alloc (.cells #[.int .i64 id, .int .i64 t] 60)).frozen? ⟨b, 0, none⟩ = false := by rw [World.frozen?_of_block (heap_alloc_old w1 _ hbl1)]; exact hfz1
  have y2 : RdT (w1.alloc (.cells #[.int .i64 id, .int .i64 t] 60)) G1 a1 2 (S1.map itv) := hrd1.keep (fun _ h => h) (Keeps.refl.alloc _)
  go_wp2_with fail
  clear hcell1 hfz1 hrd1 hk1
  generalize World.alloc w1 _ = w2 at *
  generalize w1.heap.size = B0 at *
  have hB0 := hk2.size
  go_loopw [7, 8, 9] (fun o f i wr => ∃ (k : Nat) (acc : List Due) (fb : Bool) (o' : Value), o' = o ∧ k ≤ n1 ∧ f = .bool fb ∧ i = .int .i64 k ∧ Hid (LaidIn (t, id) S1 acc k fb) ∧ wr.ownsRow w2.heap.size 60 2 o' acc.length (its acc) ∧ Below w2.heap.size w2 wr) (fun _ _ i _ => n1 - (intOf i).toNat)
  case atStart => exact ⟨0, [], false, _, rfl, Nat.zero_le _, rfl, rfl, Lib.hid (laidIn_start _ _), World.ownsRow_nil _ _ _ _, Below.refl _ _⟩
  case round =>
    obtain ⟨k, acc, fb, o', rfl, hk, rfl, rfl, hat, hown, hb⟩ := hrel
    have hal := laidIn_len hat.out
    have z0 := (hb.cell (p := ⟨B0, 0, none⟩) xs).trans x0
    have z1 := (hb.cell (p := ⟨B0, 1, none⟩) xs).trans x1
    have zc := (hb.cell (p := ⟨b, 0, none⟩) (show b < w2.heap.size by omega)).trans y0
    by_cases hlt : k < n1
    · obtain ⟨b1, o1, rfl, hg1, hb1, hrng⟩ := rdT_at y2 (by rw [HL.out]; omega)
      have lk : k < S1.length := by rw [HL.out]; exact hlt
      have hrk := hrng k lk
      have c0 := (hb.cell (p := ⟨b1, o1 + k * 2, none⟩) hb1).trans (hrk 0 _ rfl)
      have c1 := (hb.cell (p := ⟨b1, o1 + k * 2 + 1, none⟩) hb1).trans (hrk 1 _ rfl)
      clear hrng hrk
      have k0 : (0 : Int) ≤ (k : Int) := by omega
      have k1 : (k : Int) < (n1 : Int) := by omega
      cases fb with
      | true =>
        have HM := Lib.hid (laidIn_more hat.out lk)
        generalize S1[k] = x at *
        go_wp2_with fail
        go_quiet (fail)
        have hb4 : Below w2.heap.size w2 (wr.drewN nq) := hb.trans ⟨rfl, rfl, rfl, Nat.le_refl _, fun _ _ => rfl⟩
        have hown4 : (wr.drewN nq).ownsRow w2.heap.size 60 2 o' acc.length (its acc) := hown
        have d0 : (wr.drewN nq).cell? ⟨b1, o1 + k * 2, none⟩ = some (.int .i64 x.2) := c0
        have d1 : (wr.drewN nq).cell? ⟨b1, o1 + k * 2 + 1, none⟩ = some (.int .i64 x.1) := c1
        have dc : (wr.drewN nq).cell? ⟨b, 0, none⟩ = some (.slice (some ⟨b1, o1, none⟩) n1 c1') := zc
        clear hb hown c0 c1 zc z0 z1
        generalize wr.drewN nq = w4 at *
        go_wp2_with (at_builtin; refine wpList_append_own _ rfl _ _ 26 rfl w2.heap.size 60 i0 _ 2 16 Try.underlying26 hi hz0 hz1 hz2 rfl (by decide) _ _ _ rfl (hown4.alloc _) ⟨_, 0, none⟩ 1 1 [.int .i64 x.2, .int .i64 x.1] rfl rfl ?c1a ?c2a ?c3a ?c4a ?c5a ?_)
        case c1a => exact cells_two _ _ _ _
        case c2a => intro u hu; simp at hu; rcases hu with rfl | rfl <;> rfl
        case c3a => unfold maxLen; omega
        case c4a => omega
        case c5a => have := hb4.size; simp; omega
        intro oa' wa' howna' hgrowa' _
        have hba' := (hb4.alloc hb4.size (.cells #[.int .i64 x.2, .int .i64 x.1] 60)).grown hgrowa' (by have := hb4.size; simp; omega) (fun j hj => (hown4.lt j hj).1)
        have hown5 : wa'.ownsRow w2.heap.size 60 2 oa' (acc ++ [x]).length (its (acc ++ [x])) := by
          rw [its_snoc, List.length_append]; exact howna'
        clear howna'
        go_wp2
        go_roundw
        case rel => exact ⟨k + 1, _, _, _, rfl, by omega, rfl, by go_num, HM, hown5, hba'⟩
        case measure => simp [intOf]; omega
      | false =>
        have hp := fun h => laidIn_pass hat.out lk h
        have hh := fun h => laidIn_here hat.out lk h
        generalize S1[k] = x at *
        by_cases hle : lq x (t, id)
        · have HD := Lib.hid (show decide (¬ lq x (t, id)) = false by simpa using hle)
          have HM := Lib.hid (hp hle)
          clear hp hh hle
          go_wp2_with fail
          go_region_with (go_at_call 22
                          refine (before_below (t, id) x _).mono ?_
                          rintro e w5 ⟨rfl, hw5⟩
                          rw [HD.out])
          all_goals
            have hby : Below wr.heap.size wr w5 := ⟨hw5.os, by have := hw5.tape; exact this, hw5.output, hw5.size, hw5.block⟩
            have hbx : Below w2.heap.size wr w5 := hby.mono hb.size
            have hb4 : Below w2.heap.size w2 w5 := hb.trans hbx
            have hown4 := own_belowA hown hby
            have e0 := (hbx.cell (p := ⟨B0, 0, none⟩) xs).trans z0
            have e1 := (hbx.cell (p := ⟨B0, 1, none⟩) xs).trans z1
            have d0 := (hbx.cell (p := ⟨b1, o1 + k * 2, none⟩) hb1).trans c0
            have d1 := (hbx.cell (p := ⟨b1, o1 + k * 2 + 1, none⟩) hb1).trans c1
            have dc := (hbx.cell (p := ⟨b, 0, none⟩) (show b < w2.heap.size by omega)).trans zc
            clear hb hown c0 c1 zc z0 z1 hw5 hbx hby
            go_wp2_with (at_builtin; refine wpList_append_own _ rfl _ _ 26 rfl w2.heap.size 60 i0 _ 2 16 Try.underlying26 hi hz0 hz1 hz2 rfl (by decide) _ _ _ rfl (hown4.alloc _) ⟨_, 0, none⟩ 1 1 [.int .i64 x.2, .int .i64 x.1] rfl rfl ?c1a ?c2a ?c3a ?c4a ?c5a ?_)
            case c1a => exact cells_two _ _ _ _
            case c2a => intro u hu; simp at hu; rcases hu with rfl | rfl <;> rfl
            case c3a => unfold maxLen; omega
            case c4a => omega
            case c5a => have := hb4.size; simp; omega
            intro oa' wa' howna' hgrowa' _
            have hba' := (hb4.alloc hb4.size (.cells #[.int .i64 x.2, .int .i64 x.1] 60)).grown hgrowa' (by have := hb4.size; simp; omega) (fun j hj => (hown4.lt j hj).1)
            have hown5 : wa'.ownsRow w2.heap.size 60 2 oa' (acc ++ [x]).length (its (acc ++ [x])) := by
              rw [its_snoc, List.length_append]; exact howna'
            clear howna'
            go_wp2
            go_roundw
            case rel => exact ⟨k + 1, _, _, _, rfl, by omega, rfl, by go_num, HM, hown5, hba'⟩
            case measure => simp [intOf]; omega
        · have HD := Lib.hid (show decide (¬ lq x (t, id)) = true by simpa using hle)
          have HM := Lib.hid (hh hle)
          clear hp hh hle
          go_wp2_with fail
          go_region_with (go_at_call 22
                          refine (before_below (t, id) x _).mono ?_
                          rintro e w5 ⟨rfl, hw5⟩
                          rw [HD.out])
          all_goals
            have hby : Below wr.heap.size wr w5 := ⟨hw5.os, by have := hw5.tape; exact this, hw5.output, hw5.size, hw5.block⟩
            have hbx : Below w2.heap.size wr w5 := hby.mono hb.size
            have hb4 : Below w2.heap.size w2 w5 := hb.trans hbx
            have hown4 := own_belowA hown hby
            have e0 := (hbx.cell (p := ⟨B0, 0, none⟩) xs).trans z0
            have e1 := (hbx.cell (p := ⟨B0, 1, none⟩) xs).trans z1
            have d0 := (hbx.cell (p := ⟨b1, o1 + k * 2, none⟩) hb1).trans c0
            have d1 := (hbx.cell (p := ⟨b1, o1 + k * 2 + 1, none⟩) hb1).trans c1
            have dc := (hbx.cell (p := ⟨b, 0, none⟩) (show b < w2.heap.size by omega)).trans zc
            clear hb hown c0 c1 zc z0 z1 hw5 hbx hby
            go_wp2_with (at_builtin; refine wpList_append_own _ rfl _ _ 26 rfl w2.heap.size 60 i0 _ 2 16 Try.underlying26 hi hz0 hz1 hz2 rfl (by decide) _ _ _ rfl (hown4.alloc _) ⟨_, 0, none⟩ 1 1 [.int .i64 id, .int .i64 t] rfl rfl ?c1a ?c2a ?c3a ?c4a ?c5a ?_)
            case c1a => exact cells_two _ _ _ _
            case c2a => intro u hu; simp at hu; rcases hu with rfl | rfl <;> rfl
            case c3a => unfold maxLen; omega
            case c4a => omega
            case c5a => have := hb4.size; simp; omega
            intro oa' wa' howna' hgrowa' _
            have hba' := (hb4.alloc hb4.size (.cells #[.int .i64 id, .int .i64 t] 60)).grown hgrowa' (by have := hb4.size; simp; omega) (fun j hj => (hown4.lt j hj).1)
            have hown5 : wa'.ownsRow w2.heap.size 60 2 oa' (acc ++ [(t, id)]).length (its (acc ++ [(t, id)])) := by
              rw [its_snoc, List.length_append]; exact howna'
            have hgr := (Below.refl w2.heap.size w5).alloc hb4.size (.cells #[.int .i64 id, .int .i64 t] 60)
            have hgs := hgr.grown hgrowa' (by have := hb4.size; simp; omega) (fun j hj => (hown4.lt j hj).1)
            have f0 := (hgs.cell (p := ⟨b1, o1 + k * 2, none⟩) hb1).trans d0
            have f1 := (hgs.cell (p := ⟨b1, o1 + k * 2 + 1, none⟩) hb1).trans d1
            have fc := (hgs.cell (p := ⟨b, 0, none⟩) (show b < w2.heap.size by omega)).trans dc
            have hal5 : (acc ++ [(t, id)]).length ≤ k + 2 := by simp; omega
            clear howna' hown4 hb4 d0 d1 dc e0 e1 hgr hgs hgrowa'
            go_wp2_with (at_builtin; refine wpList_append_own _ rfl _ _ 26 rfl w2.heap.size 60 i0 _ 2 16 Try.underlying26 hi hz0 hz1 hz2 rfl (by decide) _ _ _ rfl (hown5.alloc _) ⟨_, 0, none⟩ 1 1 [.int .i64 x.2, .int .i64 x.1] rfl rfl ?c1b ?c2b ?c3b ?c4b ?c5b ?_)
            case c1b => exact cells_two _ _ _ _
            case c2b => intro u hu; simp at hu; rcases hu with rfl | rfl <;> rfl
            case c3b => unfold maxLen; omega
            case c4b => omega
            case c5b => have := hba'.size; simp; omega
            intro ob' wb' hownb' hgrowb' _
            have hbb' := (hba'.alloc hba'.size (.cells #[.int .i64 x.2, .int .i64 x.1] 60)).grown hgrowb' (by have := hba'.size; simp; omega) (fun j hj => (hown5.lt j hj).1)
            have hown6 : wb'.ownsRow w2.heap.size 60 2 ob' (acc ++ [(t, id)] ++ [x]).length (its (acc ++ [(t, id)] ++ [x])) := by
              rw [its_snoc, List.length_append (bs := [x]), List.length_append]; exact hownb'
            clear hownb'
            go_wp2
            go_roundw
            case rel => exact ⟨k + 1, _, _, _, rfl, by omega, rfl, by go_num, HM, hown6, hbb'⟩
            case measure => simp [intOf]; omega
    · have hkn : S1.length = k := by rw [HL.out]; omega
      rw [← hkn] at hat
      have hfz : wr.frozen? ⟨b, 0, none⟩ = false := by rw [World.frozen?_of_block (hb.block b (show b < w2.heap.size by omega))]; exact y1
      have hkw : Keeps (· ≠ b) w wr := hk2.trans ⟨hb.os, hb.tape, hb.output, hb.size, fun k hk _ => hb.block k hk⟩
      cases fb with
      | true =>
        have he := laidIn_end hat.out
        subst he
        obtain ⟨a2, c2, rfl, hl2, hrd2, hc2⟩ := rdT_own hown
        go_wp2_with fail
        refine bodyPost_end (results_none rfl _ _ _) rfl ?_
        refine ⟨rfl, ?_, hkw.setCell (by simp) _⟩
        rw [HSET.out]
        exact rf_stored zc hfz (hrd2.keep (fun k hk => ⟨by omega, by simpa [World.setCell] using hk.2⟩) Keeps.refl) (by omega) hc2
      | false =>
        have he := laidIn_last hat.out
        have HE := Lib.hid he; clear he
        go_wp2_with (at_builtin; refine wpList_append_own _ rfl _ _ 26 rfl w2.heap.size 60 i0 _ 2 16 Try.underlying26 hi hz0 hz1 hz2 rfl (by decide) _ _ _ rfl (hown.alloc _) ⟨_, 0, none⟩ 1 1 [.int .i64 id, .int .i64 t] rfl rfl ?c1a ?c2a ?c3a ?c4a ?c5a ?_)
        case c1a => exact cells_two _ _ _ _
        case c2a => intro u hu; simp at hu; rcases hu with rfl | rfl <;> rfl
        case c3a => unfold maxLen; omega
        case c4a => omega
        case c5a => have := hb.size; simp; omega
        intro oa' wa' howna' hgrowa' _
        have hba' := (hb.alloc hb.size (.cells #[.int .i64 id, .int .i64 t] 60)).grown hgrowa' (by have := hb.size; simp; omega) (fun j hj => (hown.lt j hj).1)
        have hown5 : wa'.ownsRow w2.heap.size 60 2 oa' (acc ++ [(t, id)]).length (its (acc ++ [(t, id)])) := by
          rw [its_snoc, List.length_append]; exact howna'
        have hsz := hba'.size
        rw [HE.out] at hown5
        obtain ⟨a2, c2, rfl, hl2, hrd2, hc2⟩ := rdT_own hown5
        have zc5 := (hba'.cell (p := ⟨b, 0, none⟩) (show b < w2.heap.size by omega)).trans y0
        have hfz5 : wa'.frozen? ⟨b, 0, none⟩ = false := by rw [World.frozen?_of_block (hba'.block b (show b < w2.heap.size by omega))]; exact y1
        have hkw5 : Keeps (· ≠ b) w wa' := hk2.trans ⟨hba'.os, hba'.tape, hba'.output, hba'.size, fun k hk _ => hba'.block k hk⟩
        clear howna' hown5 hfz zc
        go_wp2_with fail
        refine bodyPost_end (results_none rfl _ _ _) rfl ?_
        refine ⟨rfl, ?_, hkw5.setCell (by simp) _⟩
        rw [HSET.out]
        exact rf_stored zc5 hfz5 (hrd2.keep (fun k hk => ⟨by omega, by simpa [World.setCell] using hk.2⟩) Keeps.refl) (by omega) hc2
end Go.Proofs.Ytpepmjkkckgkkaa
