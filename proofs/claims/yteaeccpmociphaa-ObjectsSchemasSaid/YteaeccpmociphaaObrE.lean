/-
  Merged: ObqE, ObqF.
-/
import Derived.Test.YteaeccpmociphaaObrA
import Derived.Deep.RegionLaw
import Derived.Test.YteaeccpmociphaaObjQ
namespace Go.Proofs.Yteaeccpmociphaa
section
/-! Layer 7, the program, by contract: copyTable. -/
set_option linter.unusedVariables false
open Go.RowKit Go.Sort Go.Shelf

set_option maxRecDepth 100000 in
set_option maxHeartbeats 8000000 in
theorem prog_copytable_any (B : Nat) (t : Tab) (vc vr : Value) (w : World) (hc : Lst w (· < B) colP 3 vc t.cols) (hr : Lst w (· < B) (rulP w (· < B)) 8 vr t.rules) (hB : B ≤ w.heap.size) (hs : smallT 3000 t) :
    Calls Try.prog 48 #[.agg #[.string t.schema, .string t.name, .string t.owner, vc, vr]] w (CopyPost w t) := by
  obtain ⟨hs1, hs2, hs3⟩ := hs
  obtain ⟨ca, cc, rfl, hcc, hcm⟩ := hc.form
  obtain ⟨ra, rc, rfl, hrc, hrm⟩ := hr.form
  obtain ⟨cn, hcn⟩ : ∃ n, t.cols.length = n := ⟨_, rfl⟩
  obtain ⟨rn, hrn⟩ : ∃ n, t.rules.length = n := ⟨_, rfl⟩
  rw [hcn] at hc hcc hs1
  rw [hrn] at hr hrc hs2
  rw [hcn, hrn]
  unfold maxLen at hrm hcm
  have hb1 := box_five w (.string t.schema) (.string t.name) (.string t.owner) (.slice ca cn cc) (.slice ra rn rc) 35
  have hbw : Below w.heap.size w ((w.alloc (.cells #[.string t.schema, .string t.name, .string t.owner, .slice ca cn cc, .slice ra rn rc] 35)).alloc (.cells #[.string ⟨#[]⟩, .string ⟨#[]⟩, .string ⟨#[]⟩, .slice none 0 0, .slice none 0 0] 35)) :=
    ((Below.refl _ w).alloc (Nat.le_refl _) _).alloc (by simp) _
  have hrow := heap_alloc_new (w.alloc (.cells #[.string t.schema, .string t.name, .string t.owner, .slice ca cn cc, .slice ra rn rc] 35)) (.cells #[.string ⟨#[]⟩, .string ⟨#[]⟩, .string ⟨#[]⟩, .slice none 0 0, .slice none 0 0] 35)
  have hrow1 : ((w.alloc (.cells #[.string t.schema, .string t.name, .string t.owner, .slice ca cn cc, .slice ra rn rc] 35)).alloc (.cells #[.string ⟨#[]⟩, .string ⟨#[]⟩, .string ⟨#[]⟩, .slice none 0 0, .slice none 0 0] 35)).heap[w.heap.size]? = some (.cells #[.string t.schema, .string t.name, .string t.owner, .slice ca cn cc, .slice ra rn rc] 35 (0, 0)) := by
    rw [Below.heap_alloc _ _ _ (by simp)]
    exact heap_alloc_new w _
  have hs0 : (w.alloc (.cells #[.string t.schema, .string t.name, .string t.owner, .slice ca cn cc, .slice ra rn rc] 35)).heap.size = w.heap.size + 1 := by simp
  rw [hs0] at hrow
  have hsz : ((w.alloc (.cells #[.string t.schema, .string t.name, .string t.owner, .slice ca cn cc, .slice ra rn rc] 35)).alloc (.cells #[.string ⟨#[]⟩, .string ⟨#[]⟩, .string ⟨#[]⟩, .slice none 0 0, .slice none 0 0] 35)).heap.size = w.heap.size + 2 := by simp
  have HCC := Lib.hid (fun W (hW : Below w.heap.size w W) => prog_copylist_col ca cn cc (· < B) t.cols W (cols_keep hc (fun _ h => h) (Keeps.of_below hW (S := (· < B)) fun k hk => Nat.lt_of_lt_of_le hk hB)) (fun k hk => Nat.lt_of_lt_of_le (Nat.lt_of_lt_of_le hk hB) hW.size) (by omega))
  have HCR := Lib.hid (fun W (hW : Below w.heap.size w W) => prog_copylist_rul ra rn rc (· < B) t.rules W (ruls_keep hr (fun _ h => h) (Keeps.of_below hW (S := (· < B)) fun k hk => Nat.lt_of_lt_of_le hk hB)) (fun k hk => Nat.lt_of_lt_of_le (Nat.lt_of_lt_of_le hk hB) hW.size) (by omega))
  have HRN := Lib.hid hrn; have HCN := Lib.hid hcn
  have HS3 := Lib.hid hs3; have HB0 := Lib.hid (below_drawn hbw 1); have HROW := Lib.hid hrow; have HROW1 := Lib.hid hrow1
  have HSZ := Lib.hid hsz
  have x3 := box_at hrow1 3 rfl
  have x4 := box_at hrow1 4 rfl
  clear hc hr hb1 hrn hcn hs3 hbw hrow hrow1 hs0 hsz
  go_enter Try.func48, Try.ntmps48
  go_wp2_with fail
  go_region_law (first
    | (go_simp
       refine (HCC.out _ HB0.out).mono ?_
       rintro e w1 ⟨nv, rfl, hv, hb⟩
       obtain ⟨va, vcap, rfl, _, _⟩ := hv.form
       rw [HCN.out] at hv ⊢
       have hb' := hb.mono (Nat.le_of_eq HSZ.out.symm)
       have HV1 := Lib.hid ((hv.mono (Nat.le_of_eq HSZ.out.symm)).flat (fun h => h))
       have y0 := (hb'.block w.heap.size (by omega)).trans HROW1.out
       have HY0 := Lib.hid y0
       have HY1 := Lib.hid ((hb'.block (w.heap.size + 1) (by omega)).trans HROW.out)
       have HW1 := Lib.hid (show w.heap.size + 2 ≤ w1.heap.size from Nat.le_trans (Nat.le_of_eq HSZ.out.symm) hb.size)
       have HB1 := Lib.hid (HB0.out.trans (hb'.mono (by omega)))
       have x4' := box_at y0 4 rfl
       clear hv hb hb' y0)
    | (go_simp
       refine (HCR.out _ HB1.out).mono ?_
       rintro e w2 ⟨nr, rfl, hv, hb⟩
       obtain ⟨la, lcap, rfl, _, _⟩ := hv.form
       rw [HRN.out] at hv ⊢
       have HV2 := Lib.hid hv
       have y0 := (hb.block w.heap.size (by have := HW1.out; omega)).trans HY0.out
       have HZ0 := Lib.hid y0
       have HZ1 := Lib.hid ((hb.block (w.heap.size + 1) (by have := HW1.out; omega)).trans HY1.out)
       have HB2 := Lib.hid hb
       have z3 := box_at y0 3 rfl
       have z4 := box_at y0 4 rfl
       have f3 := frozen_of_row w2 w.heap.size 3 _ _ y0
       have f4 := frozen_of_row w2 w.heap.size 4 _ _ y0
       clear hv hb y0))
  all_goals
    have hk5 : Keeps (· ≠ w.heap.size) w2 ((w2.setCell ⟨w.heap.size, 3, none⟩ (.slice va cn vcap)).setCell ⟨w.heap.size, 4, none⟩ (.slice la rn lcap)) := (Keeps.refl.setCell (by simp) _).setCell (by simp) _
    have hp5 : ((w2.setCell ⟨w.heap.size, 3, none⟩ (.slice va cn vcap)).setCell ⟨w.heap.size, 4, none⟩ (.slice la rn lcap)).heap[w.heap.size]? = some (.cells #[.string t.schema, .string t.name, .string t.owner, .slice va cn vcap, .slice la rn lcap] 35 (0, 0)) := heap_setCell_same _ _ 4 _ _ _ (heap_setCell_same _ _ 3 _ _ _ HZ0.out)
    have hq5 := hk5.row HZ1.out (by omega)
    have hw12 := HW1.out
    have HC5 := Lib.hid ((HV1.out.below col_stays (HB2.out)).keep col_stays hk5 fun j hj => by have := hj.1; omega)
    have HM5 := Lib.hid (MixX.start (HV2.out.keep rul_stays hk5 (fun j hj => by have h1 : j < B := hj; omega) (fun g hg => by have := (HV2.out.block hg).1; omega) (fun _ h => h)))
    have HB5 := Lib.hid ((HB1.out.trans (HB2.out.mono (by omega))).trans (hk5.below (by have := HB2.out.size; omega) fun j hj => by omega))
    have HL5 := Lib.hid (show w1.heap.size ≤ ((w2.setCell ⟨w.heap.size, 3, none⟩ (.slice va cn vcap)).setCell ⟨w.heap.size, 4, none⟩ (.slice la rn lcap)).heap.size from Nat.le_trans HB2.out.size hk5.size)
    have HP5 := Lib.hid hp5; have HQ5 := Lib.hid hq5
    have x4' := box_at hp5 4 rfl
    clear hk5 hp5 hq5 f3 f4 z3 z4 x3 x4
    generalize World.setCell (World.setCell w2 _ _) _ _ = w5 at *
    go_wp2_with fail
    go_loopw [3, 4, 16] (fun _ _ i wr => ∃ k : Nat, k ≤ rn ∧ i = .int .i64 k ∧ Hid (MixX rulP wr (· < B) w1.heap.size 57 8 (.slice la rn lcap) t.rules k ∧ Keeps (fun j => j < w5.heap.size ∧ (Value.slice la rn lcap).ownBlock ≠ some j) w5 wr)) (fun _ _ i _ => rn - (intOf i).toNat)
    case atStart => exact ⟨0, Nat.zero_le _, rfl, Lib.hid ⟨HM5.out, Keeps.refl⟩⟩
    case round =>
      obtain ⟨k, hk, rfl, hrel⟩ := hrel
      obtain ⟨hmx, hkp⟩ := hrel.out
      have hpw : Keeps (fun j => j < w.heap.size + 2) w5 wr := hkp.mono fun j hj => ⟨by have := HL5.out; omega, fun e => by have := (HM5.out.block e).1; omega⟩
      have hy0 := hpw.row HP5.out (by omega)
      have hy1 := hpw.row HQ5.out (by omega)
      have hwr : Below w.heap.size w wr := HB5.out.trans (hpw.below (by have := HB5.out.size; omega) fun j hj => by omega)
      have hsw : w.heap.size + 2 ≤ wr.heap.size := by have := HL5.out; have := hkp.size; omega
      have hs1w : w1.heap.size ≤ wr.heap.size := Nat.le_trans HL5.out hkp.size
      have HY0 := Lib.hid hy0; have HY1 := Lib.hid hy1
      by_cases hlt : k < rn
      · have lk : k < t.rules.length := by rw [HRN.out]; exact hlt
        have hmxl := hmx
        rw [← HRN.out] at hmxl
        obtain ⟨g, cap', x, hv, _, _, hgs, hxr, hxl⟩ := hmxl.at rul_stays lk
        rw [HRN.out] at hv
        injection hv with hv1 _ hv3
        subst hv1 hv3
        have hth := hmxl.there rul_stays lk
        have k0 : (0 : Int) ≤ (k : Int) := by omega
        have k1 : (k : Int) < (rn : Int) := by omega
        have HKN := Lib.hid (show k + 1 ≤ rn by omega)
        have h3000 := HS3.out k lk
        have HNEXT := Lib.hid (fun w4 X (hb : Below wr.heap.size wr w4) hX => hmxl.next rul_stays lk (w4 := w4) (X := X) (fun j hj => by have h1 : j < B := hj; omega) hb hs1w hX)
        generalize t.rules[k] = r at *
        obtain ⟨rv, rfl, hrv⟩ := hxr
        obtain ⟨sa, scap, rfl, _, _⟩ := hrv.form
        have c0 : wr.cell? ⟨g, k * 8, none⟩ = _ := hxl 0 _ rfl
        have c1 := hxl 1 _ rfl
        have c2 := hxl 2 _ rfl
        have c3 := hxl 3 _ rfl
        have c4 := hxl 4 _ rfl
        have c5 := hxl 5 _ rfl
        have c6 := hxl 6 _ rfl
        have c7 := hxl 7 _ rfl
        have HHX := Lib.hid hxl; have HHR := Lib.hid hrv
        clear hxl hrv hmx hmxl
        have hal := (Below.refl wr.heap.size wr).alloc (Nat.le_refl _) (.cells #[.string r.name, .int .i64 r.kind, .slice sa r.cols.length scap, .int .i64 r.low, .int .i64 r.high, .string r.schema, .string r.table, .string r.key] 57)
        have hbs : (wr.alloc (.cells #[.string r.name, .int .i64 r.kind, .slice sa r.cols.length scap, .int .i64 r.low, .int .i64 r.high, .string r.schema, .string r.table, .string r.key] 57)).heap.size = wr.heap.size + 1 := by simp
        have HCK := Lib.hid (prog_copyrule_any B r (.slice sa r.cols.length scap) (wr.alloc (.cells #[.string r.name, .int .i64 r.kind, .slice sa r.cols.length scap, .int .i64 r.low, .int .i64 r.high, .string r.schema, .string r.table, .string r.key] 57)).drew (strs_keep HHR.out (fun _ h => h) (Keeps.of_below (below_drawn hal 1) (S := (· < B)) fun j hj => by have h1 : j < B := hj; omega)) (by have h1 : (wr.alloc (.cells #[.string r.name, .int .i64 r.kind, .slice sa r.cols.length scap, .int .i64 r.low, .int .i64 r.high, .string r.schema, .string r.table, .string r.key] 57)).drew.heap.size = wr.heap.size + 1 := hbs; rw [h1]; omega) h3000)
        have HAL := Lib.hid hal; have HBS := Lib.hid hbs
        have x4b := (hal.cell (p := ⟨w.heap.size, 4, none⟩) (by show w.heap.size < wr.heap.size; omega)).trans (box_at hy0 4 rfl)
        have hgl := hgs.lt
        go_wp2_with fail
        clear c0 c1 c2 c3 c4 c5 c6 c7
        go_region_law (first
          | (go_simp
             refine HCK.out.mono ?_
             rintro e w4 ⟨na, nc, rfl, hv, hb⟩
             have hb' : Below wr.heap.size wr w4 := (below_drawn HAL.out 1).trans (hb.mono (by have := HBS.out; show wr.heap.size ≤ _; exact Nat.le_trans (Nat.le_succ _) (Nat.le_of_eq HBS.out.symm)))
             have HN4 := Lib.hid (HNEXT.out w4 [.string r.name, .int .i64 r.kind, .slice na r.cols.length nc, .int .i64 r.low, .int .i64 r.high, .string r.schema, .string r.table, .string r.key] hb' ⟨_, rfl, strs_keep (hv.lst str_stays) (fun j hj => hj.mono (Nat.le_trans (Nat.le_succ _) (Nat.le_of_eq HBS.out.symm))) Keeps.refl⟩)
             have HB4 := Lib.hid hb'
             have s0 : w4.cell? ⟨g, k * 8, none⟩ = _ := (hb'.cell (p := ⟨g, k * 8 + 0, none⟩) hgl).trans (HHX.out 0 _ rfl)
             have s1 := (hb'.cell (p := ⟨g, k * 8 + 1, none⟩) hgl).trans (HHX.out 1 _ rfl)
             have s2 := (hb'.cell (p := ⟨g, k * 8 + 2, none⟩) hgl).trans (HHX.out 2 _ rfl)
             have s3 := (hb'.cell (p := ⟨g, k * 8 + 3, none⟩) hgl).trans (HHX.out 3 _ rfl)
             have s4 := (hb'.cell (p := ⟨g, k * 8 + 4, none⟩) hgl).trans (HHX.out 4 _ rfl)
             have s5 := (hb'.cell (p := ⟨g, k * 8 + 5, none⟩) hgl).trans (HHX.out 5 _ rfl)
             have s6 := (hb'.cell (p := ⟨g, k * 8 + 6, none⟩) hgl).trans (HHX.out 6 _ rfl)
             have s7 := (hb'.cell (p := ⟨g, k * 8 + 7, none⟩) hgl).trans (HHX.out 7 _ rfl)
             have x4c := (hb'.cell (p := ⟨w.heap.size, 4, none⟩) (show w.heap.size < wr.heap.size by omega)).trans (box_at HY0.out 4 rfl)
             have hso := hgs.2.below hb'
             have f0 := hso.frozen (k * 8)
             have f1 := hso.frozen (k * 8 + 1)
             have f2 := hso.frozen (k * 8 + 2)
             have f3 := hso.frozen (k * 8 + 3)
             have f4 := hso.frozen (k * 8 + 4)
             have f5 := hso.frozen (k * 8 + 5)
             have f6 := hso.frozen (k * 8 + 6)
             have f7 := hso.frozen (k * 8 + 7)
             clear hv hb hb' hso))
        all_goals
          have hn4 := HN4.out
          rw [HRN.out] at hn4
          have HF := Lib.hid (And.intro hn4 (hkp.trans (((Keeps.of_below HB4.out (S := (· < wr.heap.size)) fun _ h => h).mono fun j (hj : j < w5.heap.size ∧ (Value.slice (some ⟨g, 0, none⟩) rn lcap).ownBlock ≠ some j) => Nat.lt_of_lt_of_le hj.1 hkp.size).trans ((keeps_setCells (g := g) [.string r.name, .int .i64 r.kind, .slice na r.cols.length nc, .int .i64 r.low, .int .i64 r.high, .string r.schema, .string r.table, .string r.key] (k * 8) w4).mono fun j hj e => hj.2 (by have h1 : j = g := e; rw [h1]; rfl)))))
          clear hn4 s0 s1 s2 s3 s4 s5 s6 s7 f0 f1 f2 f3 f4 f5 f6 f7 x4b
          go_wp2_with fail
          go_roundw
          case rel => exact ⟨k + 1, HKN.out, by go_num, HF⟩
          case measure => have := HKN.out; simp [intOf]; omega
      · obtain rfl : rn = k := by omega
        have hx := hmx.done (by rw [HRN.out]; exact Nat.le_refl _)
        have g0 := box_at hy0 0 rfl
        have g1 := box_at hy0 1 rfl
        have g2 := box_at hy0 2 rfl
        have g3 := box_at hy0 3 rfl
        have g4 := box_at hy0 4 rfl
        have HI : Hid ((Try.prog.info? 35).map (·.size) = some 5) := Lib.hid (by kernel_rfl)
        have HO5 : Hid ((#[.string t.schema, .string t.name, .string t.owner, .slice va cn vcap, .slice la rn lcap] : Array Value).all (·.oneCell') = true) := Lib.hid (by kernel_rfl)
        have HROW := Lib.hid (setRow_heap _ _ _ #[.string t.schema, .string t.name, .string t.owner, .slice va cn vcap, .slice la rn lcap] _ _ HY1.out)
        have HX := Lib.hid hx; have HMX := Lib.hid hmx; have HKP := Lib.hid hkp; have HWR := Lib.hid hwr
        clear hx hmx hkp hwr hy0 hy1 hpw
        go_wp2_with (refine wpList_store_box rfl 35 _ _ rfl (w.heap.size + 1) 35 _ #[.string t.schema, .string t.name, .string t.owner, .slice va cn vcap, .slice la rn lcap] rfl rfl HY1.out HI.out rfl HO5.out ?_)
        refine bodyPost_ret (results_cell_row rfl _ _ (w.heap.size + 1) _ _ (0, 0) _ rfl HROW.out Try.underlying35 rfl HI.out) rfl ?_
        have hkB : Keeps (fun j => j ≠ w.heap.size + 1) wr (wr.setRow (w.heap.size + 1) #[.string t.schema, .string t.name, .string t.owner, .slice va cn vcap, .slice la rn lcap]) := ⟨rfl, rfl, rfl, by simp, fun j _ hj => setRow_other _ _ _ _ hj⟩
        have hcw := HC5.out.move (fun h => h) HKP.out fun g hg => by
          have h1 := (HV1.out.block hg).lt
          exact ⟨by have := HL5.out; omega, fun e => by have := (HM5.out.block e).1; omega⟩
        refine ⟨_, _, rfl, (hcw.keep col_stays hkB fun j hj => by have := hj.1; omega).mono col_stays (by omega), (HX.out.keep rul_stays hkB fun j hj => by have := hj.1; omega).mono rul_stays (by omega), HWR.out.trans (hkB.below (by omega) fun j hj => by omega)⟩
end

section
/-! Layer 7, the program, by contract: copyObjects. -/
set_option linter.unusedVariables false
open Go.RowKit Go.Sort Go.Shelf

/-- Objects in memory of one's own: the schemas' row ahead of all that the tables are. -/
def objY (w : World) (B : Nat) (vs vt : Value) (o : Objs) : Prop := ∃ m, B ≤ m ∧ OwnX schQ w B 72 2 vs o.schemas ∧ (∀ g, vs.ownBlock = some g → g < m) ∧ OwnX tabP w m 35 5 vt o.tables
theorem objY.objX {w : World} {B : Nat} {vs vt : Value} {o : Objs} (h : objY w B vs vt o) : objX w B vs vt o := by
  obtain ⟨m, h1, h2, _, h4⟩ := h
  exact ⟨h2, h4.mono tab_stays h1⟩
theorem objY.keep {w w' : World} {B : Nat} {vs vt : Value} {o : Objs} (h : objY w B vs vt o) {S : Nat → Prop} (hk : Keeps S w w') (hs : ∀ k, Sf B w k → S k) : objY w' B vs vt o := by
  obtain ⟨m, h1, h2, h3, h4⟩ := h
  exact ⟨m, h1, h2.keep sch_stays hk hs, h3, h4.keep tab_stays hk fun k hk' => hs k (hk'.mono h1)⟩
def OwnPostY (w : World) (o : Objs) (e : Ending) (w' : World) : Prop := ∃ vs vt, e = .returned (.agg #[vs, vt]) ∧ objY w' w.heap.size vs vt o ∧ Below w.heap.size w w'
set_option maxRecDepth 100000 in
set_option maxHeartbeats 8000000 in
theorem prog_copyobjs_any (B : Nat) (o : Objs) (vs vt : Value) (w : World) (ho : objP w (· < B) [vs, vt] o) (hB : B ≤ w.heap.size) (hsm : smallO 3000 o) :
    Calls Try.prog 97 #[.agg #[vs, vt]] w (OwnPostY w o) := by
  obtain ⟨_, _, hv, hc, hr⟩ := ho
  simp only [List.cons.injEq, and_true] at hv
  obtain ⟨rfl, rfl⟩ := hv
  obtain ⟨hs1, hs2, hs3⟩ := hsm
  obtain ⟨ca, cc, rfl, hcc, hcm⟩ := hc.form
  obtain ⟨ra, rc, rfl, hrc, hrm⟩ := hr.form
  obtain ⟨cn, hcn⟩ : ∃ n, o.schemas.length = n := ⟨_, rfl⟩
  obtain ⟨rn, hrn⟩ : ∃ n, o.tables.length = n := ⟨_, rfl⟩
  rw [hcn] at hc hcc hs1
  rw [hrn] at hr hrc hs2
  rw [hcn, hrn]
  unfold maxLen at hrm hcm
  have hbw : Below w.heap.size w ((w.alloc (.cells #[.slice ca cn cc, .slice ra rn rc] 26)).alloc (.cells #[.slice none 0 0, .slice none 0 0] 26)) :=
    ((Below.refl _ w).alloc (Nat.le_refl _) _).alloc (by simp) _
  have hrow := heap_alloc_new (w.alloc (.cells #[.slice ca cn cc, .slice ra rn rc] 26)) (.cells #[.slice none 0 0, .slice none 0 0] 26)
  have hrow1 : ((w.alloc (.cells #[.slice ca cn cc, .slice ra rn rc] 26)).alloc (.cells #[.slice none 0 0, .slice none 0 0] 26)).heap[w.heap.size]? = some (.cells #[.slice ca cn cc, .slice ra rn rc] 26 (0, 0)) := by
    rw [Below.heap_alloc _ _ _ (by simp)]
    exact heap_alloc_new w _
  have hs0 : (w.alloc (.cells #[.slice ca cn cc, .slice ra rn rc] 26)).heap.size = w.heap.size + 1 := by simp
  rw [hs0] at hrow
  have hsz : ((w.alloc (.cells #[.slice ca cn cc, .slice ra rn rc] 26)).alloc (.cells #[.slice none 0 0, .slice none 0 0] 26)).heap.size = w.heap.size + 2 := by simp
  have HCC := Lib.hid (fun W (hW : Below w.heap.size w W) => prog_copylist_sch ca cn cc (· < B) o.schemas W (schs_keep hc (fun _ h => h) (Keeps.of_below hW (S := (· < B)) fun k hk => Nat.lt_of_lt_of_le hk hB)) (fun k hk => Nat.lt_of_lt_of_le (Nat.lt_of_lt_of_le hk hB) hW.size) (by omega))
  have HCR := Lib.hid (fun W (hW : Below w.heap.size w W) => prog_copylist_tab ra rn rc (· < B) o.tables W (tabs_keep hr (fun _ h => h) (Keeps.of_below hW (S := (· < B)) fun k hk => Nat.lt_of_lt_of_le hk hB)) (fun k hk => Nat.lt_of_lt_of_le (Nat.lt_of_lt_of_le hk hB) hW.size) (by omega))
  have HRN := Lib.hid hrn; have HCN := Lib.hid hcn
  have HS3 := Lib.hid hs3; have HB0 := Lib.hid (below_drawn hbw 1); have HROW := Lib.hid hrow; have HROW1 := Lib.hid hrow1
  have HSZ := Lib.hid hsz
  have x3 := box_at hrow1 0 rfl
  have x4 := box_at hrow1 1 rfl
  clear hc hr hrn hcn hs3 hbw hrow hrow1 hs0 hsz
  go_enter Try.func97, Try.ntmps97
  go_wp2_with fail
  go_region_law (first
    | (go_simp
       refine (HCC.out _ HB0.out).mono ?_
       rintro e w1 ⟨nv, rfl, hv, hb⟩
       obtain ⟨va, vcap, rfl, _, _⟩ := hv.form
       rw [HCN.out] at hv ⊢
       have hb' := hb.mono (Nat.le_of_eq HSZ.out.symm)
       have HV1 := Lib.hid ((hv.mono (Nat.le_of_eq HSZ.out.symm)).flat (fun h => h))
       have y0 := (hb'.block w.heap.size (by omega)).trans HROW1.out
       have HY0 := Lib.hid y0
       have HY1 := Lib.hid ((hb'.block (w.heap.size + 1) (by omega)).trans HROW.out)
       have HW1 := Lib.hid (show w.heap.size + 2 ≤ w1.heap.size from Nat.le_trans (Nat.le_of_eq HSZ.out.symm) hb.size)
       have HB1 := Lib.hid (HB0.out.trans (hb'.mono (by omega)))
       have x4' := box_at y0 1 rfl
       clear hv hb hb' y0)
    | (go_simp
       refine (HCR.out _ HB1.out).mono ?_
       rintro e w2 ⟨nr, rfl, hv, hb⟩
       obtain ⟨la, lcap, rfl, _, _⟩ := hv.form
       rw [HRN.out] at hv ⊢
       have HV2 := Lib.hid hv
       have y0 := (hb.block w.heap.size (by have := HW1.out; omega)).trans HY0.out
       have HZ0 := Lib.hid y0
       have HZ1 := Lib.hid ((hb.block (w.heap.size + 1) (by have := HW1.out; omega)).trans HY1.out)
       have HB2 := Lib.hid hb
       have z3 := box_at y0 0 rfl
       have z4 := box_at y0 1 rfl
       have f3 := frozen_of_row w2 w.heap.size 0 _ _ y0
       have f4 := frozen_of_row w2 w.heap.size 1 _ _ y0
       clear hv hb y0))
  all_goals
    have hk5 : Keeps (· ≠ w.heap.size) w2 ((w2.setCell ⟨w.heap.size, 0, none⟩ (.slice va cn vcap)).setCell ⟨w.heap.size, 1, none⟩ (.slice la rn lcap)) := (Keeps.refl.setCell (by simp) _).setCell (by simp) _
    have hp5 : ((w2.setCell ⟨w.heap.size, 0, none⟩ (.slice va cn vcap)).setCell ⟨w.heap.size, 1, none⟩ (.slice la rn lcap)).heap[w.heap.size]? = some (.cells #[.slice va cn vcap, .slice la rn lcap] 26 (0, 0)) := heap_setCell_same _ _ 1 _ _ _ (heap_setCell_same _ _ 0 _ _ _ HZ0.out)
    have hq5 := hk5.row HZ1.out (by omega)
    have hw12 := HW1.out
    have HC5 := Lib.hid ((HV1.out.below sch_stays (HB2.out)).keep sch_stays hk5 fun j hj => by have := hj.1; omega)
    have HM5 := Lib.hid (MixX.start (HV2.out.keep tab_stays hk5 (fun j hj => by have h1 : j < B := hj; omega) (fun g hg => by have := (HV2.out.block hg).1; omega) (fun _ h => h)))
    have HB5 := Lib.hid ((HB1.out.trans (HB2.out.mono (by omega))).trans (hk5.below (by have := HB2.out.size; omega) fun j hj => by omega))
    have HL5 := Lib.hid (show w1.heap.size ≤ ((w2.setCell ⟨w.heap.size, 0, none⟩ (.slice va cn vcap)).setCell ⟨w.heap.size, 1, none⟩ (.slice la rn lcap)).heap.size from Nat.le_trans HB2.out.size hk5.size)
    have HP5 := Lib.hid hp5; have HQ5 := Lib.hid hq5
    have x4' := box_at hp5 1 rfl
    clear hk5 hp5 hq5 f3 f4 z3 z4 x3 x4
    generalize World.setCell (World.setCell w2 _ _) _ _ = w5 at *
    go_wp2_with fail
    go_loopw [3, 4, 16] (fun _ _ i wr => ∃ k : Nat, k ≤ rn ∧ i = .int .i64 k ∧ Hid (MixX tabP wr (· < B) w1.heap.size 35 5 (.slice la rn lcap) o.tables k ∧ Keeps (fun j => j < w5.heap.size ∧ (Value.slice la rn lcap).ownBlock ≠ some j) w5 wr)) (fun _ _ i _ => rn - (intOf i).toNat)
    case atStart => exact ⟨0, Nat.zero_le _, rfl, Lib.hid ⟨HM5.out, Keeps.refl⟩⟩
    case round =>
      obtain ⟨k, hk, rfl, hrel⟩ := hrel
      obtain ⟨hmx, hkp⟩ := hrel.out
      have hpw : Keeps (fun j => j < w.heap.size + 2) w5 wr := hkp.mono fun j hj => ⟨by have := HL5.out; omega, fun e => by have := (HM5.out.block e).1; omega⟩
      have hy0 := hpw.row HP5.out (by omega)
      have hy1 := hpw.row HQ5.out (by omega)
      have hwr : Below w.heap.size w wr := HB5.out.trans (hpw.below (by have := HB5.out.size; omega) fun j hj => by omega)
      have hsw : w.heap.size + 2 ≤ wr.heap.size := by have := HL5.out; have := hkp.size; omega
      have hs1w : w1.heap.size ≤ wr.heap.size := Nat.le_trans HL5.out hkp.size
      have HY0 := Lib.hid hy0; have HY1 := Lib.hid hy1
      by_cases hlt : k < rn
      · have lk : k < o.tables.length := by rw [HRN.out]; exact hlt
        have hmxl := hmx
        rw [← HRN.out] at hmxl
        obtain ⟨g, cap', x, hv, _, _, hgs, hxr, hxl⟩ := hmxl.at tab_stays lk
        rw [HRN.out] at hv
        injection hv with hv1 _ hv3
        subst hv1 hv3
        have hth := hmxl.there tab_stays lk
        have k0 : (0 : Int) ≤ (k : Int) := by omega
        have k1 : (k : Int) < (rn : Int) := by omega
        have HKN := Lib.hid (show k + 1 ≤ rn by omega)
        have h3000 := HS3.out k lk
        have HNEXT := Lib.hid (fun w4 X (hb : Below wr.heap.size wr w4) hX => hmxl.next tab_stays lk (w4 := w4) (X := X) (fun j hj => by have h1 : j < B := hj; omega) hb hs1w hX)
        generalize o.tables[k] = t at *
        obtain ⟨v1, v2, rfl, hrc1, hrv⟩ := hxr
        obtain ⟨sa, scap, rfl, _, _⟩ := hrv.form
        obtain ⟨qa, qcap, rfl, _, _⟩ := hrc1.form
        have c0 : wr.cell? ⟨g, k * 5, none⟩ = _ := hxl 0 _ rfl
        have c1 := hxl 1 _ rfl
        have c2 := hxl 2 _ rfl
        have c3 := hxl 3 _ rfl
        have c4 := hxl 4 _ rfl
        have HHX := Lib.hid hxl; have HHR := Lib.hid hrv; have HHC := Lib.hid hrc1
        clear hxl hrv hrc1 hmx hmxl
        have hal := (Below.refl wr.heap.size wr).alloc (Nat.le_refl _) (.cells #[.string t.schema, .string t.name, .string t.owner, .slice qa t.cols.length qcap, .slice sa t.rules.length scap] 35)
        have hbs : (wr.alloc (.cells #[.string t.schema, .string t.name, .string t.owner, .slice qa t.cols.length qcap, .slice sa t.rules.length scap] 35)).heap.size = wr.heap.size + 1 := by simp
        have h1b : B ≤ (wr.alloc (.cells #[.string t.schema, .string t.name, .string t.owner, .slice qa t.cols.length qcap, .slice sa t.rules.length scap] 35)).drew.heap.size := by have h1 : (wr.alloc (.cells #[.string t.schema, .string t.name, .string t.owner, .slice qa t.cols.length qcap, .slice sa t.rules.length scap] 35)).drew.heap.size = wr.heap.size + 1 := hbs; rw [h1]; omega
        have hkb : Keeps (· < B) wr (wr.alloc (.cells #[.string t.schema, .string t.name, .string t.owner, .slice qa t.cols.length qcap, .slice sa t.rules.length scap] 35)).drew := Keeps.of_below (below_drawn hal 1) (S := (· < B)) fun j hj => by have h1 : j < B := hj; omega
        have HCK := Lib.hid (prog_copytable_any B t (.slice qa t.cols.length qcap) (.slice sa t.rules.length scap) (wr.alloc (.cells #[.string t.schema, .string t.name, .string t.owner, .slice qa t.cols.length qcap, .slice sa t.rules.length scap] 35)).drew (cols_keep HHC.out (fun _ h => h) hkb) (ruls_keep HHR.out (fun _ h => h) hkb) h1b h3000)
        clear hkb h1b
        have HAL := Lib.hid hal; have HBS := Lib.hid hbs
        have x4b := (hal.cell (p := ⟨w.heap.size, 1, none⟩) (by show w.heap.size < wr.heap.size; omega)).trans (box_at hy0 1 rfl)
        have hgl := hgs.lt
        go_wp2_with fail
        clear c0 c1 c2 c3 c4
        go_region_law (first
          | (go_simp
             refine HCK.out.mono ?_
             rintro e w4 ⟨n1, n2, rfl, hv1, hv2, hb⟩
             obtain ⟨na, nc, rfl, _, _⟩ := hv1.form
             obtain ⟨ma, mc, rfl, _, _⟩ := hv2.form
             have hb' : Below wr.heap.size wr w4 := (below_drawn HAL.out 1).trans (hb.mono (by have := HBS.out; show wr.heap.size ≤ _; exact Nat.le_trans (Nat.le_succ _) (Nat.le_of_eq HBS.out.symm)))
             have HN4 := Lib.hid (HNEXT.out w4 [.string t.schema, .string t.name, .string t.owner, .slice na t.cols.length nc, .slice ma t.rules.length mc] hb' ⟨_, _, rfl, cols_keep (hv1.lst col_stays) (fun j hj => hj.mono (Nat.le_trans (Nat.le_succ _) (Nat.le_of_eq HBS.out.symm))) Keeps.refl, ruls_keep (hv2.lst rul_stays) (fun j hj => hj.mono (Nat.le_trans (Nat.le_succ _) (Nat.le_of_eq HBS.out.symm))) Keeps.refl⟩)
             have HB4 := Lib.hid hb'
             have s0 : w4.cell? ⟨g, k * 5, none⟩ = _ := (hb'.cell (p := ⟨g, k * 5 + 0, none⟩) hgl).trans (HHX.out 0 _ rfl)
             have s1 := (hb'.cell (p := ⟨g, k * 5 + 1, none⟩) hgl).trans (HHX.out 1 _ rfl)
             have s2 := (hb'.cell (p := ⟨g, k * 5 + 2, none⟩) hgl).trans (HHX.out 2 _ rfl)
             have s3 := (hb'.cell (p := ⟨g, k * 5 + 3, none⟩) hgl).trans (HHX.out 3 _ rfl)
             have s4 := (hb'.cell (p := ⟨g, k * 5 + 4, none⟩) hgl).trans (HHX.out 4 _ rfl)
             have x4c := (hb'.cell (p := ⟨w.heap.size, 1, none⟩) (show w.heap.size < wr.heap.size by omega)).trans (box_at HY0.out 1 rfl)
             have hso := hgs.2.below hb'
             have f0 := hso.frozen (k * 5)
             have f1 := hso.frozen (k * 5 + 1)
             have f2 := hso.frozen (k * 5 + 2)
             have f3 := hso.frozen (k * 5 + 3)
             have f4 := hso.frozen (k * 5 + 4)
             clear hv1 hv2 hb hb' hso))
        all_goals
          have hn4 := HN4.out
          rw [HRN.out] at hn4
          have HF := Lib.hid (And.intro hn4 (hkp.trans (((Keeps.of_below HB4.out (S := (· < wr.heap.size)) fun _ h => h).mono fun j (hj : j < w5.heap.size ∧ (Value.slice (some ⟨g, 0, none⟩) rn lcap).ownBlock ≠ some j) => Nat.lt_of_lt_of_le hj.1 hkp.size).trans ((keeps_setCells (g := g) [.string t.schema, .string t.name, .string t.owner, .slice na t.cols.length nc, .slice ma t.rules.length mc] (k * 5) w4).mono fun j hj e => hj.2 (by have h1 : j = g := e; rw [h1]; rfl)))))
          clear hn4 s0 s1 s2 s3 s4 f0 f1 f2 f3 f4 x4b
          go_wp2_with fail
          go_roundw
          case rel => exact ⟨k + 1, HKN.out, by go_num, HF⟩
          case measure => have := HKN.out; simp [intOf]; omega
      · obtain rfl : rn = k := by omega
        have hx := hmx.done (by rw [HRN.out]; exact Nat.le_refl _)
        have g0 := box_at hy0 0 rfl
        have g1 := box_at hy0 1 rfl
        have HI : Hid ((Try.prog.info? 26).map (·.size) = some 2) := Lib.hid (by kernel_rfl)
        have HO5 : Hid ((#[.slice va cn vcap, .slice la rn lcap] : Array Value).all (·.oneCell') = true) := Lib.hid (by kernel_rfl)
        have HROW := Lib.hid (setRow_heap _ _ _ #[.slice va cn vcap, .slice la rn lcap] _ _ HY1.out)
        have HX := Lib.hid hx; have HMX := Lib.hid hmx; have HKP := Lib.hid hkp; have HWR := Lib.hid hwr
        clear hx hmx hkp hwr hy0 hy1 hpw
        go_wp2_with (refine wpList_store_box rfl 26 _ _ rfl (w.heap.size + 1) 26 _ #[.slice va cn vcap, .slice la rn lcap] rfl rfl HY1.out HI.out rfl HO5.out ?_)
        refine bodyPost_ret (results_cell_row rfl _ _ (w.heap.size + 1) _ _ (0, 0) _ rfl HROW.out Try.underlying26 rfl HI.out) rfl ?_
        have hkB : Keeps (fun j => j ≠ w.heap.size + 1) wr (wr.setRow (w.heap.size + 1) #[.slice va cn vcap, .slice la rn lcap]) := ⟨rfl, rfl, rfl, by simp, fun j _ hj => setRow_other _ _ _ _ hj⟩
        have hcw := HC5.out.move (fun h => h) HKP.out fun g hg => by
          have h1 := (HV1.out.block hg).lt
          exact ⟨by have := HL5.out; omega, fun e => by have := (HM5.out.block e).1; omega⟩
        refine ⟨_, _, rfl, ⟨w1.heap.size, by omega, (hcw.keep sch_stays hkB fun j hj => by have := hj.1; omega).mono sch_stays (by omega), fun g hg => (HV1.out.block hg).lt, HX.out.keep tab_stays hkB fun j hj => by have := hj.1; omega⟩, HWR.out.trans (hkB.below (by omega) fun j hj => by omega)⟩
end
end Go.Proofs.Yteaeccpmociphaa
