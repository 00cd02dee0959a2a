/-
  The document's answer for layer 7, by contract: Copy.
-/
import Derived.Test.YtkghkioghkapcaaObjO
import Derived.Test.YtkghkioghkapcaaObjL
import Derived.Test.YtkghkioghkapcaaSetsC
namespace Go.Proofs.Ytkghkioghkapcaa
open Go.RowKit Go.Sort

theorem colInfo : (Try.prog.info? 41).map (fun i => (i.zero, i.size, i.bytes)) = some (some (.agg #[.string ⟨#[]⟩, .int .i64 0, .bool false]), 3, 32) := by kernel_rfl
theorem schInfo : (Try.prog.info? 75).map (fun i => (i.zero, i.size, i.bytes)) = some (some (.agg #[.string ⟨#[]⟩, .string ⟨#[]⟩]), 2, 32) := by kernel_rfl
theorem rulInfo : (Try.prog.info? 56).map (fun i => (i.zero, i.size, i.bytes)) = some (some (.agg #[.string ⟨#[]⟩, .int .i64 0, .slice none 0 0, .int .i64 0, .int .i64 0, .string ⟨#[]⟩, .string ⟨#[]⟩, .string ⟨#[]⟩]), 8, 112) := by kernel_rfl
theorem tabInfo : (Try.prog.info? 35).map (fun i => (i.zero, i.size, i.bytes)) = some (some (.agg #[.string ⟨#[]⟩, .string ⟨#[]⟩, .string ⟨#[]⟩, .slice none 0 0, .slice none 0 0]), 5, 96) := by kernel_rfl

/-- A table's cells. -/
def tabV (t : Tab) (vc vr : Value) : List Value := [.string t.schema, .string t.name, .string t.owner, vc, vr]
def CopyPost (w : World) (t : Tab) (e : Ending) (w' : World) : Prop :=
  ∃ vc vr, e = .returned (.agg #[.string t.schema, .string t.name, .string t.owner, vc, vr]) ∧ OwnX colQ w' w.heap.size 41 3 vc t.cols ∧ OwnX rulP w' w.heap.size 56 8 vr t.rules ∧ Below w.heap.size w w'

/-- .. and the columns' row stands ahead of all that the rules read. -/
def CopyPost2 (w : World) (t : Tab) (e : Ending) (w' : World) : Prop :=
  ∃ m vc vr, e = .returned (.agg #[.string t.schema, .string t.name, .string t.owner, vc, vr]) ∧ OwnX colQ w' w.heap.size 41 3 vc t.cols ∧ (∀ g, vc.ownBlock = some g → g < m) ∧ w.heap.size ≤ m ∧ OwnX rulP w' m 56 8 vr t.rules ∧ Below w.heap.size w w'

/-- A rule whose columns' row was just made, laid beside a row. -/
theorem rule_laid {w4 : World} {B p : Nat} {l' nv : Value} {r : Rul} (hn : OwnX strQ w4 (p + 1) 9 1 nv r.cols) (hB : B ≤ p) (hl : ∀ g, l'.ownBlock = some g → g < p) :
    rulP (w4.setCell ⟨p, 2, none⟩ nv) (fun k => Sf B (w4.setCell ⟨p, 2, none⟩ nv) k ∧ l'.ownBlock ≠ some k) [.string r.name, .int .i64 r.kind, nv, .int .i64 r.low, .int .i64 r.high, .string r.schema, .string r.table, .string r.key] r :=
  ⟨nv, rfl, strs_keep (hn.lst str_stays) (fun k hk => ⟨⟨by have := hk.1; omega, hk.2.setCell _ _ rfl⟩, fun e => by have := hl k e; have := hk.1; omega⟩) (Keeps.refl.setCell (fun hs => by have := hs.1; simp at this; omega) _)⟩
theorem below_eq {B B' : Nat} {w w' : World} (h : Below B w w') (e : B = B') : Below B' w w' := e ▸ h

set_option maxRecDepth 100000 in
set_option maxHeartbeats 8000000 in
theorem ref_copy2_any (B : Nat) (t : Tab) (vc vr : Value) (w : World) (hc : Lst w (· < B) colP 3 vc t.cols) (hr : Lst w (· < B) (rulP w (· < B)) 8 vr t.rules) (hB : B ≤ w.heap.size) (hs : smallT 3000 t) :
    Calls Try.prog 54 #[.agg #[.string t.schema, .string t.name, .string t.owner, vc, vr]] w (CopyPost2 w t) := by
  obtain ⟨ic, ci, cz0, cz1, cz2⟩ := info_parts colInfo
  obtain ⟨ir, ri, rz0, rz1, rz2⟩ := info_parts rulInfo
  obtain ⟨is, si, sz0, sz1, sz2⟩ := info_parts strInfo
  obtain ⟨hs1, hs2, hs3⟩ := hs
  obtain ⟨ca, cc, rfl, hcc, hcm⟩ := hc.form
  obtain ⟨ra, rc, rfl, hrc, hrm⟩ := hr.form
  obtain ⟨cn, hcn⟩ : ∃ n, t.cols.length = n := ⟨_, rfl⟩
  obtain ⟨rn, hrn⟩ : ∃ n, t.rules.length = n := ⟨_, rfl⟩
  rw [hcn] at hc hcc hs1
  rw [hrn] at hr hrc hs2
  rw [hcn, hrn]
  unfold maxLen at hrm hcm
  have hb1 := box_five w (.string t.schema) (.string t.name) (.string t.owner) (.slice ca cn cc) (.slice ra rn rc) 35
  have x3 := hb1 3 _ rfl
  have x4 := hb1 4 _ rfl
  have hbw : Below w.heap.size w ((w.alloc (.cells #[.string t.schema, .string t.name, .string t.owner, .slice ca cn cc, .slice ra rn rc] 35)).alloc (.cells #[.string ⟨#[]⟩, .string ⟨#[]⟩, .string ⟨#[]⟩, .slice none 0 0, .slice none 0 0] 35)) :=
    ((Below.refl _ w).alloc (Nat.le_refl _) _).alloc (by simp) _
  have hrow := heap_alloc_new (w.alloc (.cells #[.string t.schema, .string t.name, .string t.owner, .slice ca cn cc, .slice ra rn rc] 35)) (.cells #[.string ⟨#[]⟩, .string ⟨#[]⟩, .string ⟨#[]⟩, .slice none 0 0, .slice none 0 0] 35)
  have hrow1 : ((w.alloc (.cells #[.string t.schema, .string t.name, .string t.owner, .slice ca cn cc, .slice ra rn rc] 35)).alloc (.cells #[.string ⟨#[]⟩, .string ⟨#[]⟩, .string ⟨#[]⟩, .slice none 0 0, .slice none 0 0] 35)).heap[w.heap.size]? = some (.cells #[.string t.schema, .string t.name, .string t.owner, .slice ca cn cc, .slice ra rn rc] 35 (0, 0)) := by
    rw [Below.heap_alloc _ _ _ (by simp)]
    exact heap_alloc_new w _
  have hs0 : (w.alloc (.cells #[.string t.schema, .string t.name, .string t.owner, .slice ca cn cc, .slice ra rn rc] 35)).heap.size = w.heap.size + 1 := by simp
  rw [hs0] at hrow
  have hsz : w.heap.size + 1 + 1 = ((w.alloc (.cells #[.string t.schema, .string t.name, .string t.owner, .slice ca cn cc, .slice ra rn rc] 35)).alloc (.cells #[.string ⟨#[]⟩, .string ⟨#[]⟩, .string ⟨#[]⟩, .slice none 0 0, .slice none 0 0] 35)).heap.size := by simp
  have HSZ := Lib.hid hsz
  have HC := Lib.hid (cols_keep hc (fun _ h => h) (Keeps.of_below hbw (S := (· < B)) fun k hk => Nat.lt_of_lt_of_le hk hB))
  have HR := Lib.hid hr; have HRN := Lib.hid hrn; have HCN := Lib.hid hcn
  have HS3 := Lib.hid hs3; have HBW := Lib.hid hbw; have HROW := Lib.hid hrow; have HROW1 := Lib.hid hrow1
  clear hc hr hb1 hrn hcn hs3 hbw hrow hrow1 hs0 hsz
  go_enter Try.func54, Try.ntmps54
  go_wp2_with (at_builtin; refine wpList_append_all rfl _ _ 32 rfl 41 ic _ 3 32 Try.underlying32 ci cz0 cz1 cz2 rfl (by decide) rfl (S := (· < B)) col_stays (fun h => h) rfl HC.out ?c1 ?_)
  case c1 => omega
  clear x3 x4
  generalize World.alloc (World.alloc w _) _ = w0 at *
  intro vc2 w2 hvc hb2
  rw [HSZ.out] at hvc hb2
  have hbW := below_on HBW.out (Nat.le_refl _) hb2
  have y0 := (hb2.block w.heap.size (lt_of_block HROW1.out)).trans HROW1.out
  have y1 := (hb2.block (w.heap.size + 1) (lt_of_block HROW.out)).trans HROW.out
  have hl2 : w.heap.size + 2 ≤ w2.heap.size := by have := hb2.size; have := HSZ.out; omega
  have HV := Lib.hid (OwnX.mono hvc col_stays (B' := w.heap.size + 2) (by have := HSZ.out; omega))
  have HBW2 := Lib.hid hbW; have HY1 := Lib.hid y1
  obtain ⟨va, vcap, rfl, _, _⟩ := hvc.form
  rw [HCN.out] at HV ⊢
  clear hvc hb2 HROW HROW1 HC HBW hbW y1
  have x4 := box_at y0 4 rfl
  have HY0 := Lib.hid y0
  clear y0
  go_wp2_with fail
  go_loopw [4, 5] (fun l i wr => ∃ (k : Nat) (l' : Value), l' = l ∧ k ≤ rn ∧ i = .int .i64 k ∧ Hid (OwnX rulP wr w2.heap.size 56 8 l' (t.rules.take k) ∧ Below w2.heap.size w2 wr)) (fun _ i _ => rn - (intOf i).toNat)
  case atStart => exact ⟨0, _, rfl, Nat.zero_le _, rfl, Lib.hid ⟨by rw [List.take_zero]; exact OwnX.nil _ _ _ _ _, Below.refl _ _⟩⟩
  case round =>
    obtain ⟨k, l', rfl, hk, rfl, hrel⟩ := hrel
    obtain ⟨hx, hb⟩ := hrel.out
    clear hrel
    have hwr := below_on HBW2.out (Nat.le_refl _) hb
    have x4' := cell_on hb x4
    by_cases hlt : k < rn
    · have lk : k < t.rules.length := by rw [HRN.out]; exact hlt
      obtain ⟨b, q, x, rfl, hbB, hxr, hxl⟩ := HR.out.at lk
      have hbl : b < w.heap.size := Nat.lt_of_lt_of_le hbB hB
      have k0 : (0 : Int) ≤ (k : Int) := by omega
      have k1 : (k : Int) < (rn : Int) := by omega
      have HKN := Lib.hid (show k + 1 ≤ rn by omega)
      have h3000 := HS3.out k lk
      have HTK := Lib.hid (show t.rules.take (k + 1) = t.rules.take k ++ [t.rules[k]] from List.take_succ_eq_append_getElem lk)
      generalize t.rules[k] = r at *
      obtain ⟨v, rfl, hrv⟩ := hxr
      obtain ⟨sa, scap, rfl, _, _⟩ := hrv.form
      have c0 : wr.cell? ⟨b, q + k * 8, none⟩ = _ := (hwr.cell (p := ⟨b, q + k * 8 + 0, none⟩) hbl).trans (hxl 0 _ rfl)
      have c1 := (hwr.cell (p := ⟨b, q + k * 8 + 1, none⟩) hbl).trans (hxl 1 _ rfl)
      have c2 := (hwr.cell (p := ⟨b, q + k * 8 + 2, none⟩) hbl).trans (hxl 2 _ rfl)
      have c3 := (hwr.cell (p := ⟨b, q + k * 8 + 3, none⟩) hbl).trans (hxl 3 _ rfl)
      have c4 := (hwr.cell (p := ⟨b, q + k * 8 + 4, none⟩) hbl).trans (hxl 4 _ rfl)
      have c5 := (hwr.cell (p := ⟨b, q + k * 8 + 5, none⟩) hbl).trans (hxl 5 _ rfl)
      have c6 := (hwr.cell (p := ⟨b, q + k * 8 + 6, none⟩) hbl).trans (hxl 6 _ rfl)
      have c7 := (hwr.cell (p := ⟨b, q + k * 8 + 7, none⟩) hbl).trans (hxl 7 _ rfl)
      have hal := (Below.refl wr.heap.size wr).alloc (Nat.le_refl _) (.cells #[.string r.name, .int .i64 r.kind, .slice sa r.cols.length scap, .int .i64 r.low, .int .i64 r.high, .string r.schema, .string r.table, .string r.key] 56)
      have HSTR := Lib.hid (strs_keep hrv (fun _ h => h) (Keeps.of_below (hwr.trans (hal.mono hwr.size)) (S := (· < B)) fun k hk => Nat.lt_of_lt_of_le hk hB))
      have hbox := heap_alloc_new wr (.cells #[.string r.name, .int .i64 r.kind, .slice sa r.cols.length scap, .int .i64 r.low, .int .i64 r.high, .string r.schema, .string r.table, .string r.key] 56)
      have hbs : (wr.alloc (.cells #[.string r.name, .int .i64 r.kind, .slice sa r.cols.length scap, .int .i64 r.low, .int .i64 r.high, .string r.schema, .string r.table, .string r.key] 56)).heap.size = wr.heap.size + 1 := by simp
      have HBX := Lib.hid hbox; have HAL := Lib.hid hal; have HX := Lib.hid hx; have HB := Lib.hid hb
      have hw2r := hb.size
      obtain ⟨nm, hnm⟩ : ∃ n, r.cols.length = n := ⟨_, rfl⟩
      rw [hnm] at HSTR HBX HAL h3000 c2 hbs
      have HNM := Lib.hid hnm
      clear hxl hrv hbox hal hx hb hnm
      go_wp2_with (at_builtin; refine wpList_append_all rfl _ _ 54 rfl 9 is _ 1 16 Try.underlying54 si sz0 sz1 sz2 rfl (by decide) rfl (S := (· < B)) str_stays (fun h => h) rfl HSTR.out ?c1 ?_)
      case c1 => omega
      clear c0 c1 c2 c3 c4 c5 c6 c7
      generalize World.alloc wr _ = wb at *
      generalize hp : wr.heap.size = p at *
      have HP := Lib.hid hp
      clear hp
      intro nv w4 hnv hb4
      have hb4' := hb4
      have hbox4 := (hb4'.block p (by omega)).trans HBX.out
      obtain ⟨na, ncap, rfl, hnc1, hnc2⟩ := hnv.form
      rw [HNM.out] at hnv hnc1 ⊢
      have hxl : ∀ g, l'.ownBlock = some g → g < p := fun g hg => by have := (HX.out.block hg).lt; have := HP.out; omega
      have hrl := rule_laid (r := r) (l' := l') (by rw [HNM.out] at *; exact hnv) hw2r hxl
      have hk5 : Keeps (· < p) wr (w4.setCell ⟨p, 2, none⟩ (.slice na nm ncap)) := (((Keeps.of_below (S := (· < p)) HAL.out fun _ h => h).trans (Keeps.of_below hb4' fun k hk => by omega))).setCell (by simp) _
      have hx5 := HX.out.keep rul_stays hk5 fun k hk => by have := hk.lt; have := HP.out; omega
      have hsz5 : (w4.setCell ⟨p, 2, none⟩ (.slice na nm ncap)).heap.size = w4.heap.size := by simp [World.setCell]
      have hp4 : p < w4.heap.size := lt_of_block hbox4
      have d0 := box_at hbox4 0 rfl
      have d1 := box_at hbox4 1 rfl
      have d2 := box_at hbox4 2 rfl
      have d3 := box_at hbox4 3 rfl
      have d4 := box_at hbox4 4 rfl
      have d5 := box_at hbox4 5 rfl
      have d6 := box_at hbox4 6 rfl
      have d7 := box_at hbox4 7 rfl
      have dz := frozen_of_row w4 p 2 _ _ hbox4
      obtain ⟨xss, hown, hxn, hel⟩ := hx5
      have hkl : (t.rules.take k).length = k := by rw [List.length_take, HRN.out]; omega
      have hown' := hown.alloc (.cells #[.string r.name, .int .i64 r.kind, .slice na nm ncap, .int .i64 r.low, .int .i64 r.high, .string r.schema, .string r.table, .string r.key] 56)
      rw [hkl] at hown'
      have HO := Lib.hid hown; have HO' := Lib.hid hown'; have HXN := Lib.hid hxn; have HEL := Lib.hid hel; have HRL := Lib.hid hrl; have HKL := Lib.hid hkl
      have HK5 := Lib.hid hk5
      have hnew := (cells_fresh (w4.setCell ⟨p, 2, none⟩ (.slice na nm ncap)) [.string r.name, .int .i64 r.kind, .slice na nm ncap, .int .i64 r.low, .int .i64 r.high, .string r.schema, .string r.table, .string r.key] 56)
      rw [hsz5] at hnew
      have HNEW := Lib.hid hnew
      have HONE : Hid (∀ u ∈ [Value.string r.name, .int .i64 r.kind, .slice na nm ncap, .int .i64 r.low, .int .i64 r.high, .string r.schema, .string r.table, .string r.key], u.oneCell' = true) := Lib.hid (by intro u hu; simp at hu; rcases hu with rfl | rfl | rfl | rfl | rfl | rfl | rfl | rfl <;> rfl)
      clear hown hown' hxn hel hrl hkl hk5 hnv hb4 hb4' hbox4 hnew
      go_wp2_with (at_builtin; refine wpList_append_own_at _ rfl _ _ 33 rfl w2.heap.size 56 ir _ 8 112 Try.underlying33 ri rz0 rz1 rz2 rfl (by decide) l' k xss.flatten rfl HO'.out ⟨_, 0, none⟩ 1 1 [.string r.name, .int .i64 r.kind, .slice na nm ncap, .int .i64 r.low, .int .i64 r.high, .string r.schema, .string r.table, .string r.key] rfl rfl ?c1 ?c2 ?c3 ?c4 ?c5 ?_)
      case c1 => exact HNEW.out
      case c2 => exact HONE.out
      case c3 => unfold maxLen; omega
      case c4 => omega
      case c5 => simp; omega
      intro v3 w6 hown3 hg3 _ hat3
      have hpush := OwnX.push (l := t.rules.take k) (y := r) rul_stays HO.out HXN.out HEL.out HRL.out (by rw [HKL.out]; exact hown3) hg3 (by rw [hsz5]; exact hat3)
      rw [← HTK.out] at hpush
      have hb6 : Below w2.heap.size w2 w6 := ((Keeps.of_below HB.out (S := (· < w2.heap.size)) fun _ h => h).trans (((HK5.out.mono fun j hj => by omega).alloc _).trans (Keeps.of_grown hg3 fun j hj hlt => by have := (HX.out.block hj).1; omega))).below (Nat.le_refl _) fun _ h => h
      have HN := Lib.hid (And.intro hpush hb6)
      clear hpush hb6 hown3 hg3 hat3 d0 d1 d2 d3 d4 d5 d6 d7 dz
      go_wp2_with fail
      go_roundw
      case rel => exact ⟨k + 1, _, rfl, HKN.out, by go_num, HN⟩
      case measure => have := HKN.out; simp [intOf]; omega
    · have hkr : k = rn := by omega
      subst hkr
      have htk : t.rules.take k = t.rules := List.take_of_length_le (by rw [HRN.out]; exact Nat.le_refl _)
      rw [htk] at hx
      have hy0 := (hb.block w.heap.size (by omega)).trans HY0.out
      have hy1 := (hb.block (w.heap.size + 1) (by omega)).trans HY1.out
      have g0 := box_at hy0 0 rfl
      have g1 := box_at hy0 1 rfl
      have g2 := box_at hy0 2 rfl
      have g3 := box_at hy0 3 rfl
      have g4 := box_at hy0 4 rfl
      have e0 := box_at hy1 0 rfl
      have z3 := frozen_of_row wr w.heap.size 3 _ _ hy0
      have z4 := frozen_of_row wr w.heap.size 4 _ _ hy0
      have HX := Lib.hid hx; have HYY := Lib.hid hy1; have HB := Lib.hid hb; have HY := Lib.hid hy0
      obtain ⟨la, lcap, rfl, _, _⟩ := hx.form
      rw [HRN.out] at HX ⊢
      have hk1 : Keeps (· ≠ w.heap.size) wr ((wr.setCell ⟨w.heap.size, 3, none⟩ (.slice va cn vcap)).setCell ⟨w.heap.size, 4, none⟩ (.slice la k lcap)) := (Keeps.refl.setCell (by simp) _).setCell (by simp) _
      have HG := Lib.hid (hk1.row hy1 (by omega))
      have HI : Hid ((Try.prog.info? 35).map (·.size) = some 5) := Lib.hid (by kernel_rfl)
      have HO5 : Hid ((#[.string t.schema, .string t.name, .string t.owner, .slice va cn vcap, .slice la k lcap] : Array Value).all (·.oneCell') = true) := Lib.hid (by kernel_rfl)
      have HROW := Lib.hid (setRow_heap _ _ _ #[.string t.schema, .string t.name, .string t.owner, .slice va cn vcap, .slice la k lcap] _ _ HG.out)
      have HK1 := Lib.hid hk1
      clear hx hb hy0 hy1 hk1
      go_wp2_with (refine wpList_store_box rfl 35 _ _ rfl (w.heap.size + 1) 35 _ #[.string t.schema, .string t.name, .string t.owner, .slice va cn vcap, .slice la k lcap] rfl rfl HG.out HI.out rfl HO5.out ?_)
      refine bodyPost_ret (results_cell_row rfl _ _ (w.heap.size + 1) _ _ (0, 0) _ rfl HROW.out Try.underlying35 rfl HI.out) rfl ?_
      have hkB : Keeps (fun j => j ≠ w.heap.size ∧ j ≠ w.heap.size + 1) wr (((wr.setCell ⟨w.heap.size, 3, none⟩ (.slice va cn vcap)).setCell ⟨w.heap.size, 4, none⟩ (.slice la k lcap)).setRow (w.heap.size + 1) #[.string t.schema, .string t.name, .string t.owner, .slice va cn vcap, .slice la k lcap]) :=
        (HK1.out.mono fun j hj => hj.1).trans ⟨rfl, rfl, rfl, by simp, fun j _ hj => setRow_other _ _ _ _ hj.2⟩
      exact ⟨w2.heap.size, _, _, rfl, ((HV.out.below col_stays HB.out).keep col_stays hkB fun j hj => by have := hj.1; omega).mono col_stays (by omega), fun g hg => (HV.out.block hg).lt, by omega, HX.out.keep rul_stays hkB fun j hj => by have := hj.1; omega,
        hwr.trans (hkB.below (by have := hwr.size; omega) fun j hj => by omega)⟩
theorem ref_copy_any (B : Nat) (t : Tab) (vc vr : Value) (w : World) (hc : Lst w (· < B) colP 3 vc t.cols) (hr : Lst w (· < B) (rulP w (· < B)) 8 vr t.rules) (hB : B ≤ w.heap.size) (hs : smallT 3000 t) :
    Calls Try.prog 54 #[.agg #[.string t.schema, .string t.name, .string t.owner, vc, vr]] w (CopyPost w t) := by
  refine (ref_copy2_any B t vc vr w hc hr hB hs).mono ?_
  rintro e w' ⟨m, vc', vr', h1, h2, _, h4, h5, h6⟩
  exact ⟨vc', vr', h1, h2, h5.mono rul_stays h4, h6⟩
end Go.Proofs.Ytkghkioghkapcaa
