/-
  Merged: Law07d, Law07f.
-/
import Derived.Test.YteaeccpmociphaaLaw07b
import Derived.Test.YteaeccpmociphaaObrG
import Derived.Test.YteaeccpmociphaaObjS1
import Derived.Test.YteaeccpmociphaaObjY
import Derived.Test.YteaeccpmociphaaObjI
import Derived.Test.YteaeccpmociphaaObrK
namespace Go.Proofs.Yteaeccpmociphaa
section
/-! Merged: Law07d, Law07e. -/

section
/-! Layer 7's law: finds. -/
set_option linter.unusedVariables false
open Go.RowKit Go.Sort Go.Shelf

theorem doc_finds : findF docO ⟨#[115]⟩ ⟨#[116]⟩ = (docTab, 0) := by decide +kernel
theorem doc_finds_no : findF docO ⟨#[115]⟩ ⟨#[117]⟩ = (noT, 61) := by decide +kernel
set_option maxRecDepth 100000 in
set_option maxHeartbeats 4000000 in
theorem law07_finds_any (w : World) : Calls Try.prog 21 #[] w fun e w' => e = .returned (.bool true) ∧ Below w.heap.size w w' := by
  go_enter Try.func21, Try.ntmps21
  go_wp2_with fail
  refine (law07_one_any w).mono ?_
  rintro e w1 ⟨vs, vt, rfl, ho, hb1⟩
  have HF := Lib.hid (prog_find_any w1.heap.size docO vs vt ⟨#[115]⟩ ⟨#[116]⟩ w1 (obj_keep ho (fun k hk => hk.lt) Keeps.refl) (Nat.le_refl _) docO_small)
  rw [doc_finds] at HF
  have HB1 := Lib.hid hb1
  clear ho hb1
  go_wp2_with fail
  refine HF.out.mono ?_
  rintro e w2 ⟨vc, vr, rfl, ht2, hb2⟩
  have hb12 := below_on HB1.out (Nat.le_refl _) hb2
  obtain ⟨_, _, hv, hc, hr⟩ := ht2
  simp only [tabV, List.cons.injEq, and_true] at hv
  obtain ⟨_, _, _, rfl, rfl⟩ := hv
  obtain ⟨ca, cc, rfl, _, _⟩ := hc.form
  obtain ⟨ra, rc, rfl, _, _⟩ := hr.form
  rw [show (docTab, (0 : Int)).1.schema = ⟨#[115]⟩ from rfl, show (docTab, (0 : Int)).1.name = ⟨#[116]⟩ from rfl, show (docTab, (0 : Int)).1.owner = ⟨#[111]⟩ from rfl, show (docTab, (0 : Int)).2 = 0 from rfl, show (docTab, (0 : Int)).1.cols.length = 2 from rfl, show (docTab, (0 : Int)).1.rules.length = 1 from rfl]
  have hrow := heap_alloc_new w2 (.cells #[.string ⟨#[115]⟩, .string ⟨#[116]⟩, .string ⟨#[111]⟩, .slice ca 2 cc, .slice ra 1 rc] 35)
  have hal := (Below.refl w2.heap.size w2).alloc (Nat.le_refl _) (.cells #[.string ⟨#[115]⟩, .string ⟨#[116]⟩, .string ⟨#[111]⟩, .slice ca 2 cc, .slice ra 1 rc] 35)
  have HROW := Lib.hid hrow; have HB2 := Lib.hid (below_on hb12 (Nat.le_refl _) hal)
  have hlt : w2.heap.size < (w2.alloc (.cells #[.string ⟨#[115]⟩, .string ⟨#[116]⟩, .string ⟨#[111]⟩, .slice ca 2 cc, .slice ra 1 rc] 35)).heap.size := by simp
  clear hb2 hb12 hc hr hrow hal
  go_wp2_with fail
  generalize World.alloc w2 _ = w3 at *
  refine (law07_one_any w3).mono ?_
  rintro e w4 ⟨vs2, vt2, rfl, ho, hb4⟩
  have HF2 := Lib.hid (prog_find_any w4.heap.size docO vs2 vt2 ⟨#[115]⟩ ⟨#[117]⟩ w4 (obj_keep ho (fun k hk => hk.lt) Keeps.refl) (Nat.le_refl _) docO_small)
  rw [doc_finds_no] at HF2
  have HB4 := Lib.hid (below_on HB2.out (Nat.le_refl _) hb4)
  have HR4 := Lib.hid ((hb4.block _ hlt).trans HROW.out)
  have hlt4 := Nat.lt_of_lt_of_le hlt hb4.size
  clear ho hb4
  go_wp2_with fail
  refine HF2.out.mono ?_
  rintro e w5 ⟨vc5, vr5, rfl, ht5, hb5⟩
  have hb15 := below_on HB4.out (Nat.le_refl _) hb5
  have hr5 := (hb5.block _ hlt4).trans HR4.out
  obtain ⟨_, _, hv, hc, hr⟩ := ht5
  simp only [tabV, List.cons.injEq, and_true] at hv
  obtain ⟨_, _, _, rfl, rfl⟩ := hv
  obtain ⟨ca5, cc5, rfl, _, _⟩ := hc.form
  obtain ⟨ra5, rc5, rfl, _, _⟩ := hr.form
  rw [show (noT, (61 : Int)).1.schema = ⟨#[]⟩ from rfl, show (noT, (61 : Int)).1.name = ⟨#[]⟩ from rfl, show (noT, (61 : Int)).1.owner = ⟨#[]⟩ from rfl, show (noT, (61 : Int)).2 = 61 from rfl, show (noT, (61 : Int)).1.cols.length = 0 from rfl, show (noT, (61 : Int)).1.rules.length = 0 from rfl]
  have hal := (Below.refl w5.heap.size w5).alloc (Nat.le_refl _) (.cells #[.string ⟨#[]⟩, .string ⟨#[]⟩, .string ⟨#[]⟩, .slice ca5 0 cc5, .slice ra5 0 rc5] 35)
  have hlt5 := Nat.lt_of_lt_of_le hlt4 hb5.size
  have hr6 := (hal.block _ hlt5).trans hr5
  have d2 := box_at hr6 2 rfl
  have d3 := box_at hr6 3 rfl
  have HB5 := Lib.hid (below_on hb15 (Nat.le_refl _) hal)
  clear hb5 hb15 hr5 hr6 hal hc hr
  go_wp2_with fail
  go_ret
  exact ⟨rfl, HB5.out⟩
end

section
/-! Layer 7's law: ObjectsFinds. -/
set_option linter.unusedVariables false
open Go.RowKit Go.Sort Go.Shelf

/-- Objects, with their slices spelled out. -/
theorem objP.shape {w : World} {S : Nat → Prop} {vs vt : Value} {o : Objs} (h : objP w S [vs, vt] o) : ∃ a n c a' n' c', vs = .slice a n c ∧ vt = .slice a' n' c' := by
  obtain ⟨_, _, hv, hss, hts⟩ := h
  simp only [List.cons.injEq, and_true] at hv
  obtain ⟨rfl, rfl⟩ := hv
  obtain ⟨sa, sc, rfl, _, _⟩ := hss.form
  obtain ⟨ta, tc, rfl, _, _⟩ := hts.form
  exact ⟨_, _, _, _, _, _, rfl, rfl⟩
theorem obj_on {w W : World} {B : Nat} {vs vt : Value} {o : Objs} (h : objP w (· < B) [vs, vt] o) (hb : Below B w W) : objP W (· < B) [vs, vt] o := obj_keep h (fun _ h => h) (Keeps.of_below hb fun _ h => h)

set_option maxRecDepth 100000 in
set_option maxHeartbeats 16000000 in
theorem walk_finds (o : Objs) (vs vt : Value) (s n ow : ByteArray) (w : World) (ho : objP w (· < w.heap.size) [vs, vt] o) (hsm : smallO (2 ^ 48) o) :
    Calls Try.prog 5 #[.agg #[vs, vt], .string s, .string n, .string ow] w fun e w' => e = .returned (.bool true) ∧ Below w.heap.size w w' := by
  obtain ⟨sa, sn, sc, ta, tn, tc, rfl, rfl⟩ := ho.shape
  have hal := (Gr.alloc w (.cells #[.slice sa sn sc, .slice ta tn tc] 26)).below
  have HROW := Lib.hid (heap_alloc_new w (.cells #[.slice sa sn sc, .slice ta tn tc] 26))
  have HAL := Lib.hid hal
  have hp : w.heap.size < (w.alloc (.cells #[.slice sa sn sc, .slice ta tn tc] 26)).heap.size := by simp
  have HO := Lib.hid ho
  clear hal ho
  go_enter Try.func5, Try.ntmps5
  go_wp2_with fail
  generalize hw1 : World.alloc w _ = w1 at *
  clear hw1
  refine (law07_large_any w.heap.size o _ _ w1 (obj_on HO.out HAL.out) hsm (Nat.le_of_lt hp)).mono ?_
  rintro e w2 ⟨⟨b, rfl, hb⟩, hg2⟩
  have HB2 := Lib.hid (HAL.out.trans (hg2.below.mono HAL.out.size))
  cases b with
  | true =>
    go_wp2_with fail
    go_ret
    exact ⟨rfl, HB2.out⟩
  | false =>
    have HSM := Lib.hid (hb rfl)
    have HR2 := Lib.hid ((hg2.below.block _ hp).trans HROW.out)
    have hp2 := Nat.lt_of_lt_of_le hp hg2.below.size
    have c0 := box_at HR2.out 0 rfl
    have c1 := box_at HR2.out 1 rfl
    clear hb hg2 HROW
    go_wp2_with fail
    refine (ref_own_any w.heap.size o _ _ w2 (obj_on HO.out HB2.out) (Nat.le_of_lt hp2) HSM.out).mono ?_
    rintro e w3 ⟨ns, nt, rfl, hx, hb3⟩
    have HNS := Lib.hid (obj_keep hx.obj (fun k hk => hk.lt) Keeps.refl : objP w3 (· < w3.heap.size) [ns, nt] o)
    obtain ⟨na, nn, nc, ma, mn, mc, rfl, rfl⟩ := hx.obj.shape
    have HB3 := Lib.hid (below_on HB2.out (Nat.le_refl _) hb3)
    have hrow9 := heap_alloc_new w3 (.cells #[.slice na nn nc, .slice ma mn mc] 26)
    have hal := (Gr.alloc w3 (.cells #[.slice na nn nc, .slice ma mn mc] 26)).below
    have hp3 := Nat.lt_of_lt_of_le hp2 hb3.size
    have H49 := Lib.hid hrow9
    have H44 := Lib.hid ((hal.block _ hp3).trans ((hb3.block _ hp2).trans HR2.out))
    have HB4 := Lib.hid (below_on HB3.out (Nat.le_refl _) hal)
    have h34 : w3.heap.size < (w3.alloc (.cells #[.slice na nn nc, .slice ma mn mc] 26)).heap.size := by simp
    have HN4 := Lib.hid (obj_keep HNS.out (fun k hk => Nat.lt_trans hk h34) (Keeps.of_below hal fun _ h => h))
    have HO4 := Lib.hid (obj_keep (obj_on HO.out HB4.out) (fun k hk => Nat.lt_trans hk (Nat.lt_trans hp3 h34)) Keeps.refl)
    have x0 := box_at H44.out 0 rfl
    have x1 := box_at H44.out 1 rfl
    clear hx hb3 hrow9 hal c0 c1
    go_wp2_with fail
    clear x0 x1
    generalize hw4 : World.alloc w3 _ = w4 at *
    clear hw4 HNS HO HR2 HB2 HB3 HAL
    -- Find
    have hp4 := Nat.lt_trans hp3 h34
    refine (prog_find_any w4.heap.size o _ _ s n w4 HO4.out (Nat.le_refl _) HSM.out).mono ?_
    rintro e w5 ⟨vc, vr, rfl, ht5, hb5⟩
    have HR := Lib.hid (rfl : findF o s n = findF o s n)
    obtain ⟨r, hr⟩ : ∃ r, findF o s n = r := ⟨_, rfl⟩
    rw [hr] at ht5 ⊢
    have HRF := Lib.hid hr
    clear hr HR
    obtain ⟨t, er⟩ := r
    simp only at ht5 ⊢
    obtain ⟨_, _, hv, hc5, hr5⟩ := ht5
    simp only [tabV, List.cons.injEq, and_true] at hv
    obtain ⟨_, _, _, rfl, rfl⟩ := hv
    obtain ⟨ca, cc, rfl, hcc, hcm⟩ := hc5.form
    obtain ⟨ra, rc, rfl, _, _⟩ := hr5.form
    obtain ⟨cn, hcn⟩ : ∃ m, t.cols.length = m := ⟨_, rfl⟩
    obtain ⟨rn, hrn⟩ : ∃ m, t.rules.length = m := ⟨_, rfl⟩
    rw [hcn] at hc5 hcc ⊢
    rw [hrn] at hr5 ⊢
    unfold maxLen at hcm
    have HCN := Lib.hid hcn
    clear hcn hrn
    have hal := (Gr.alloc w5 (.cells #[.string t.schema, .string t.name, .string t.owner, .slice ca cn cc, .slice ra rn rc] 35)).below
    have HBX10 := Lib.hid (heap_alloc_new w5 (.cells #[.string t.schema, .string t.name, .string t.owner, .slice ca cn cc, .slice ra rn rc] 35))
    have h56 : w5.heap.size < (w5.alloc (.cells #[.string t.schema, .string t.name, .string t.owner, .slice ca cn cc, .slice ra rn rc] 35)).heap.size := by simp
    have h45 := hb5.size
    have HC6 := Lib.hid (cols_keep hc5 (S' := fun k => (w4.heap.size ≤ k ∧ k < w5.heap.size) ∧ Soft (w5.alloc (.cells #[.string t.schema, .string t.name, .string t.owner, .slice ca cn cc, .slice ra rn rc] 35)) k) (fun k hk => ⟨⟨hk.1, hk.lt⟩, hk.2.below hal⟩) (Keeps.of_below hal fun k hk => hk.lt))
    have HR6 := Lib.hid (ruls_keep hr5 (S' := (· < w5.heap.size)) (fun k hk => hk.lt) (Keeps.of_below hal fun k hk => hk.lt))
    have HB6 := Lib.hid (below_on hb5 (Nat.le_refl _) hal)
    have y0 := box_at ((HB6.out.block _ h34).trans H49.out) 0 rfl
    have y1 := box_at ((HB6.out.block _ h34).trans H49.out) 1 rfl
    clear hc5 hr5 hal hb5
    go_wp2_with fail
    clear y0 y1
    generalize hw6 : World.alloc w5 _ = w6 at *
    clear hw6
    -- the document's Find
    have h46 := HB6.out.size
    refine (ref_find_any w4.heap.size o _ _ s n w6 (obj_on HN4.out HB6.out) h46 HSM.out).mono ?_
    rintro e w7 ⟨vc7, vr7, rfl, ht7, hb7⟩
    rw [HRF.out] at ht7 ⊢
    simp only at ht7 ⊢
    obtain ⟨_, _, hv, hc7, hr7⟩ := ht7
    simp only [tabV, List.cons.injEq, and_true] at hv
    obtain ⟨_, _, _, rfl, rfl⟩ := hv
    obtain ⟨ca7, cc7, rfl, _, _⟩ := hc7.form
    obtain ⟨ra7, rc7, rfl, _, _⟩ := hr7.form
    obtain ⟨cn7, hcn7⟩ : ∃ m, t.cols.length = m := ⟨_, rfl⟩
    obtain ⟨rn7, hrn7⟩ : ∃ m, t.rules.length = m := ⟨_, rfl⟩
    rw [hcn7] at hc7 ⊢
    rw [hrn7] at hr7 ⊢
    clear hcn7 hrn7
    have hal := (Gr.alloc w7 (.cells #[.string t.schema, .string t.name, .string t.owner, .slice ca7 cn7 cc7, .slice ra7 rn7 rc7] 35)).below
    have hbx12 := heap_alloc_new w7 (.cells #[.string t.schema, .string t.name, .string t.owner, .slice ca7 cn7 cc7, .slice ra7 rn7 rc7] 35)
    have h78 : w7.heap.size < (w7.alloc (.cells #[.string t.schema, .string t.name, .string t.owner, .slice ca7 cn7 cc7, .slice ra7 rn7 rc7] 35)).heap.size := by simp
    have h67 := hb7.size
    have h68 := below_on hb7 (Nat.le_refl _) hal
    have HBX8 := Lib.hid ((h68.block _ h56).trans HBX10.out)
    have HC8 := Lib.hid (cols_keep HC6.out (S' := fun k => (w4.heap.size ≤ k ∧ k < w5.heap.size) ∧ Soft (w7.alloc (.cells #[.string t.schema, .string t.name, .string t.owner, .slice ca7 cn7 cc7, .slice ra7 rn7 rc7] 35)) k) (fun k hk => ⟨hk.1, hk.2.below h68⟩) (Keeps.of_below h68 fun k hk => hk.2.lt))
    have HST := Lib.hid (ref_sametable_any (w7.alloc (.cells #[.string t.schema, .string t.name, .string t.owner, .slice ca7 cn7 cc7, .slice ra7 rn7 rc7] 35)).heap.size t t (.slice ca cn cc) (.slice ra rn rc) (.slice ca7 cn7 cc7) (.slice ra7 rn7 rc7) _
      (cols_keep HC8.out (fun k hk => hk.2.lt) Keeps.refl) (ruls_keep HR6.out (fun k hk => Nat.lt_trans hk (Nat.lt_of_lt_of_le h56 h68.size)) (Keeps.of_below h68 fun k hk => Nat.lt_trans hk h56))
      (cols_keep hc7 (fun k hk => Nat.lt_trans hk.lt h78) (Keeps.of_below hal fun k hk => hk.lt)) (ruls_keep hr7 (fun k hk => Nat.lt_trans hk.lt h78) (Keeps.of_below hal fun k hk => hk.lt)) (Nat.le_refl _))
    have HB8 := Lib.hid (below_on HB6.out (Nat.le_refl _) h68)
    have u0 := box_at HBX8.out 0 rfl
    have u1 := box_at HBX8.out 1 rfl
    have u2 := box_at HBX8.out 2 rfl
    have u3 := box_at HBX8.out 3 rfl
    have u4 := box_at HBX8.out 4 rfl
    have v0 := box_at hbx12 0 rfl
    have v1 := box_at hbx12 1 rfl
    have v2 := box_at hbx12 2 rfl
    have v3 := box_at hbx12 3 rfl
    have v4 := box_at hbx12 4 rfl
    have h58 := Nat.lt_of_lt_of_le h56 h68.size
    clear hc7 hr7 hal hb7 hbx12 h68 HC6 HR6 HBX10
    go_wp2_with fail
    refine HST.out.mono ?_
    rintro e w9 ⟨rfl, g9⟩
    simp only [decide_true]
    have B3 := Lib.hid (box_at ((g9.below.block _ h58).trans HBX8.out) 3 rfl : w9.cell? ⟨w5.heap.size, 3, none⟩ = some (.slice ca cn cc))
    have HC9 := Lib.hid (cols_keep HC8.out (S' := fun k => (w4.heap.size ≤ k ∧ k < w5.heap.size) ∧ Soft w9 k) (fun k hk => ⟨hk.1, hk.2.below g9.below⟩) (Keeps.of_below g9.below fun k hk => hk.2.lt))
    have HB9 := Lib.hid (below_on HB8.out (Nat.le_refl _) g9.below)
    clear u0 u1 u2 u3 u4 v0 v1 v2 v3 v4 g9 HST HC8 HBX8
    generalize World.alloc w7 _ = w8 at *
    go_wp2_with fail
    go_loopw [15] (fun i wr => ∃ k : Nat, k ≤ cn ∧ i = .int .i64 k ∧ Hid (Over (fun k => w4.heap.size ≤ k ∧ k < w5.heap.size) w9 wr)) (fun i _ => cn - (intOf i).toNat)
    case atStart => exact ⟨0, Nat.zero_le _, rfl, Lib.hid (Over.refl _ _)⟩
    case round =>
      obtain ⟨k, hk, rfl, HOV⟩ := hrel
      have hov := HOV.out
      have e3 := hov.slice B3.out
      by_cases hlt : k < cn
      · have lk : k < t.cols.length := by rw [HCN.out]; exact hlt
        obtain ⟨cb, cq, cx, rfl, hcS, hcx, hcl⟩ := HC9.out.at lk
        generalize t.cols[k] = c at *
        rw [show cx = [.string c.name, .int .i64 c.kind, .bool c.null] from hcx] at hcl
        have s0 : w9.cell? ⟨cb, cq + k * 3, none⟩ = some (.string c.name) := hcl 0 _ rfl
        obtain ⟨s9, hs9⟩ := hov.str _ _ s0
        have z9 := hov.froz _ (hcS.2.frozen (cq + k * 3))
        have HN := Lib.hid (hov.put (s' := ⟨#[111, 118, 101, 114]⟩) hcS.1 s0)
        have k0 : (0 : Int) ≤ (k : Int) := by omega
        have k1 : (k : Int) < (cn : Int) := by omega
        have HKN := Lib.hid (show k + 1 ≤ cn by omega)
        clear hcl hcx s0 hov hcS
        go_wp2_with fail
        go_roundw
        case rel => exact ⟨k + 1, HKN.out, by go_num, HN⟩
        case measure => have := HKN.out; simp [intOf]; omega
      · obtain rfl : cn = k := by omega
        have hb10 : Below w4.heap.size w4 wr := HB9.out.trans (hov.keeps.below HB9.out.size fun j hj hT => by have := hT.1; omega)
        have HB10 := Lib.hid hb10
        have x0 := box_at ((hb10.block _ hp4).trans H44.out) 0 rfl
        have x1 := box_at ((hb10.block _ hp4).trans H44.out) 1 rfl
        clear hov hb10 HOV HC9
        go_wp2_with fail
        clear e3 x0 x1
        refine (prog_setowner_any w4.heap.size o _ _ s n ow wr (obj_on HO4.out HB10.out) HB10.out.size HSM.out).mono ?_
        rintro e w11 ⟨gs, gt, rfl, hg, hb11⟩
        obtain ⟨r, hr⟩ : ∃ r, setOwnerF o s n ow = r := ⟨_, rfl⟩
        have HRS := Lib.hid hr
        rw [hr] at hg ⊢
        clear hr
        obtain ⟨G, eg⟩ := r
        simp only at hg ⊢
        obtain ⟨ga, gn, gc, ga', gn', gc', rfl, rfl⟩ := hg.shape
        have hal := (Gr.alloc w11 (.cells #[.slice ga gn gc, .slice ga' gn' gc'] 26)).below
        have h1112 : w11.heap.size < (w11.alloc (.cells #[.slice ga gn gc, .slice ga' gn' gc'] 26)).heap.size := by simp
        have hs11 := hb11.size
        have HBX16 := Lib.hid (heap_alloc_new w11 (.cells #[.slice ga gn gc, .slice ga' gn' gc'] 26))
        have HG12 := Lib.hid (obj_keep hg (S' := fun k => (wr.heap.size ≤ k ∧ k < w11.heap.size) ∧ Soft (w11.alloc (.cells #[.slice ga gn gc, .slice ga' gn' gc'] 26)) k) (fun k hk => ⟨⟨hk.1, hk.lt⟩, hk.2.below hal⟩) (Keeps.of_below hal fun k hk => hk.lt))
        have hs10 := HB10.out.size
        have HB12 := Lib.hid (HB10.out.trans (hb11.mono hs10) |>.trans (hal.mono (Nat.le_trans hs10 hs11)))
        have y0 := box_at ((HB12.out.block _ h34).trans H49.out) 0 rfl
        have y1 := box_at ((HB12.out.block _ h34).trans H49.out) 1 rfl
        clear hal hb11 hg
        go_wp2_with fail
        clear y0 y1
        generalize hw12 : World.alloc w11 _ = w12 at *
        clear hw12
        refine (ref_setowner_any w4.heap.size o _ _ s n ow w12 (obj_on HN4.out HB12.out) HB12.out.size HSM.out).mono ?_
        rintro e w13 ⟨ws, wt, rfl, hw, hb13⟩
        rw [HRS.out] at hw ⊢
        simp only at hw ⊢
        obtain ⟨wa, wn, wc, wa', wn', wc', rfl, rfl⟩ := hw.shape
        have hal := (Gr.alloc w13 (.cells #[.slice wa wn wc, .slice wa' wn' wc'] 26)).below
        have h1314 : w13.heap.size < (w13.alloc (.cells #[.slice wa wn wc, .slice wa' wn' wc'] 26)).heap.size := by simp
        have HBX18 := Lib.hid (heap_alloc_new w13 (.cells #[.slice wa wn wc, .slice wa' wn' wc'] 26))
        have h1214 := below_on hb13 (Nat.le_refl _) hal
        have HB1214 := Lib.hid h1214
        have HW14 := Lib.hid (obj_keep hw (S' := (· < w13.heap.size)) (fun k hk => hk.lt) (Keeps.of_below hal fun k hk => hk.lt))
        clear hal hb13 hw h1214
        go_wp2_with fail
        generalize hw14 : World.alloc w13 _ = w14 at *
        clear hw14
        refine (law07_finds_any w14).mono ?_
        rintro e w15 ⟨rfl, hb15⟩
        have h1215 := below_on HB1214.out (Nat.le_refl _) hb15
        have HB15 := Lib.hid (HB12.out.trans (h1215.mono HB12.out.size))
        have z4 := (HB15.out.block _ hp4).trans H44.out
        have z9 := (HB15.out.block _ h34).trans H49.out
        have z16 := (h1215.block _ h1112).trans HBX16.out
        have z18 := (hb15.block _ h1314).trans HBX18.out
        have a0 := box_at z4 0 rfl
        have a1 := box_at z4 1 rfl
        have b0 := box_at z9 0 rfl
        have b1 := box_at z9 1 rfl
        have c0 := box_at z16 0 rfl
        have c1 := box_at z16 1 rfl
        have d0 := box_at z18 0 rfl
        have d1 := box_at z18 1 rfl
        have htold := (told_any w4.heap.size (fun k => wr.heap.size ≤ k ∧ k < w11.heap.size) (fun k hk => Nat.le_trans hs10 hk.1) G G o o _ _ _ _ _ _ _ _ eg eg w15 HB15.out.size
          (obj_keep HG12.out (fun k hk => ⟨hk.1, hk.2.below h1215⟩) (Keeps.of_below h1215 fun k hk => hk.2.lt))
          (obj_keep HW14.out (fun k hk => Nat.lt_of_lt_of_le (Nat.lt_trans hk h1314) hb15.size) (Keeps.of_below hb15 fun k hk => Nat.lt_trans hk h1314))
          (obj_on HO4.out HB15.out) (obj_on HN4.out HB15.out))
        rw [show ((decide (eg = eg) && decide (G = G)) && decide (o = o)) = true by simp] at htold
        have HTOLD := Lib.hid htold
        clear hb15 h1215 z4 z9 z16 z18 htold
        go_wp2_with fail
        refine HTOLD.out.mono ?_
        rintro e w16 ⟨rfl, hk16⟩
        have HK := Lib.hid hk16
        clear hk16
        go_wp2_with fail
        go_ret
        have hs15 := HB15.out.size
        exact ⟨rfl, HB4.out.trans ((HB15.out.mono (Nat.le_of_lt hp4)).trans (HK.out.below (by omega) fun j hj => ⟨by omega, fun hT => by have := hT.1; omega⟩))⟩
end
end

section
/-! Merged: Law07f, Law07g. -/

section
/-! Layer 7's law: schemas. -/
set_option linter.unusedVariables false
open Go.RowKit Go.Sort Go.Shelf

theorem doc_adds : addSchemaF docO ⟨#[97]⟩ ⟨#[111]⟩ = (⟨[⟨⟨#[97]⟩, ⟨#[111]⟩⟩, ⟨⟨#[115]⟩, ⟨#[111]⟩⟩], [docTab]⟩, 0) := by decide +kernel
theorem doc_drops_no : dropSchemaF docO ⟨#[115]⟩ = (noO, 62) := by decide +kernel
set_option maxRecDepth 100000 in
set_option maxHeartbeats 4000000 in
theorem law07_schemas_any (w : World) : Calls Try.prog 27 #[] w fun e w' => e = .returned (.bool true) ∧ Below w.heap.size w w' := by
  go_enter Try.func27, Try.ntmps27
  go_wp2_with fail
  refine (law07_one_any w).mono ?_
  rintro e w1 ⟨vs, vt, rfl, ho, hb1⟩
  have HF := Lib.hid (prog_addschema_any w1.heap.size docO vs vt ⟨#[97]⟩ ⟨#[111]⟩ w1 (obj_keep ho (fun k hk => hk.lt) Keeps.refl) (Nat.le_refl _) docO_small)
  rw [doc_adds] at HF
  have HB1 := Lib.hid hb1
  clear ho hb1
  go_wp2_with fail
  refine HF.out.mono ?_
  rintro e w2 ⟨vs2, vt2, rfl, hob, hb2⟩
  have hb12 := below_on HB1.out (Nat.le_refl _) hb2
  obtain ⟨a3, n3, c3, a4, n4, c4, rfl, rfl⟩ := hob.shape
  obtain ⟨_, _, hv, hc, hr⟩ := hob
  simp only [List.cons.injEq, and_true] at hv
  obtain ⟨rfl, rfl⟩ := hv
  obtain rfl : 2 = n3 := hc.len.1
  obtain ⟨b, q, x, rfl, hbS, hx, hcl⟩ := hc.at (k := 0) (show 0 < 2 by omega)
  have hx0 : x = [.string ⟨#[97]⟩, .string ⟨#[111]⟩] := hx
  subst hx0
  have hc0 : w2.cell? ⟨b, q, none⟩ = some (.string ⟨#[97]⟩) := by have := hcl 0 _ rfl; simpa using this
  have hbl := hbS.lt
  have hrow := heap_alloc_new w2 (.cells #[.slice (some ⟨b, q, none⟩) 2 c3, .slice a4 n4 c4] 26)
  have hal := (Below.refl w2.heap.size w2).alloc (Nat.le_refl _) (.cells #[.slice (some ⟨b, q, none⟩) 2 c3, .slice a4 n4 c4] 26)
  have HROW := Lib.hid hrow; have HB2 := Lib.hid (below_on hb12 (Nat.le_refl _) hal)
  have HC0 := Lib.hid ((hal.cell (p := ⟨b, q, none⟩) hbl).trans hc0)
  have hlt : w2.heap.size < (w2.alloc (.cells #[.slice (some ⟨b, q, none⟩) 2 c3, .slice a4 n4 c4] 26)).heap.size := by simp
  have hbl2 := Nat.lt_trans hbl hlt
  clear hb2 hb12 hc hr hrow hal hx hcl hbS hc0 hbl
  go_wp2_with fail
  generalize World.alloc w2 _ = w3 at *
  refine (law07_one_any w3).mono ?_
  rintro e w4 ⟨vs4, vt4, rfl, ho, hb4⟩
  have HF2 := Lib.hid (prog_dropschema_any w4.heap.size docO vs4 vt4 ⟨#[115]⟩ w4 (obj_keep ho (fun k hk => hk.lt) Keeps.refl) (Nat.le_refl _) docO_small)
  rw [doc_drops_no] at HF2
  have HB4 := Lib.hid (below_on HB2.out (Nat.le_refl _) hb4)
  have HR4 := Lib.hid ((hb4.block _ hlt).trans HROW.out)
  have HC4 := Lib.hid ((hb4.cell (p := ⟨b, q, none⟩) hbl2).trans HC0.out)
  have hlt4 := Nat.lt_of_lt_of_le hlt hb4.size
  have hbl4 := Nat.lt_of_lt_of_le hbl2 hb4.size
  clear ho hb4
  go_wp2_with fail
  refine HF2.out.mono ?_
  rintro e w5 ⟨vs5, vt5, rfl, ho5, hb5⟩
  have hb15 := below_on HB4.out (Nat.le_refl _) hb5
  have hr5 := (hb5.block _ hlt4).trans HR4.out
  have hc5 := (hb5.cell (p := ⟨b, q, none⟩) hbl4).trans HC4.out
  obtain ⟨e3, m3, f3, e4, m4, f4, rfl, rfl⟩ := ho5.shape
  have hal := (Below.refl w5.heap.size w5).alloc (Nat.le_refl _) (.cells #[.slice e3 m3 f3, .slice e4 m4 f4] 26)
  have hlt5 := Nat.lt_of_lt_of_le hlt4 hb5.size
  have hbl5 := Nat.lt_of_lt_of_le hbl4 hb5.size
  have hr6 := (hal.block _ hlt5).trans hr5
  have d0 := box_at hr6 0 rfl
  have d1 := (hal.cell (p := ⟨b, q, none⟩) hbl5).trans hc5
  have HB5 := Lib.hid (below_on hb15 (Nat.le_refl _) hal)
  clear hb5 hb15 hr5 hr6 hal ho5 hc5
  go_wp2_with fail
  go_ret
  exact ⟨rfl, HB5.out⟩
end

section
/-! Layer 7's law: ObjectsSchemas. -/
set_option linter.unusedVariables false
open Go.RowKit Go.Sort Go.Shelf

set_option maxRecDepth 100000 in
set_option maxHeartbeats 16000000 in
theorem walk_schemas (o : Objs) (vs vt : Value) (n ow : ByteArray) (w : World) (ho : objP w (· < w.heap.size) [vs, vt] o) (hsm : smallO (2 ^ 48) o) :
    Calls Try.prog 6 #[.agg #[vs, vt], .string n, .string ow] w fun e w' => e = .returned (.bool true) ∧ Below w.heap.size w w' := by
  obtain ⟨sa, sn, sc, ta, tn, tc, rfl, rfl⟩ := ho.shape
  have hal := (Gr.alloc w (.cells #[.slice sa sn sc, .slice ta tn tc] 26)).below
  have HROW := Lib.hid (heap_alloc_new w (.cells #[.slice sa sn sc, .slice ta tn tc] 26))
  have HAL := Lib.hid hal
  have hp : w.heap.size < (w.alloc (.cells #[.slice sa sn sc, .slice ta tn tc] 26)).heap.size := by simp
  have HO := Lib.hid ho
  clear hal ho
  go_enter Try.func6, Try.ntmps6
  go_wp2_with fail
  generalize hw1 : World.alloc w _ = w1 at *
  clear hw1
  refine (law07_large_any w.heap.size o _ _ w1 (obj_on HO.out HAL.out) hsm (Nat.le_of_lt hp)).mono ?_
  rintro e w2 ⟨⟨b, rfl, hb⟩, hg2⟩
  have HB2 := Lib.hid (HAL.out.trans (hg2.below.mono HAL.out.size))
  cases b with
  | true =>
    go_wp2_with fail
    go_ret
    exact ⟨rfl, HB2.out⟩
  | false =>
    have HSM := Lib.hid (hb rfl)
    have HR2 := Lib.hid ((hg2.below.block _ hp).trans HROW.out)
    have hp2 := Nat.lt_of_lt_of_le hp hg2.below.size
    have c0 := box_at HR2.out 0 rfl
    have c1 := box_at HR2.out 1 rfl
    clear hb hg2 HROW
    go_wp2_with fail
    refine (ref_own_any w.heap.size o _ _ w2 (obj_on HO.out HB2.out) (Nat.le_of_lt hp2) HSM.out).mono ?_
    rintro e w3 ⟨ns, nt, rfl, hx, hb3⟩
    have HNS := Lib.hid (obj_keep hx.obj (fun k hk => hk.lt) Keeps.refl : objP w3 (· < w3.heap.size) [ns, nt] o)
    obtain ⟨na, nn, nc, ma, mn, mc, rfl, rfl⟩ := hx.obj.shape
    have HB3 := Lib.hid (below_on HB2.out (Nat.le_refl _) hb3)
    have hrow9 := heap_alloc_new w3 (.cells #[.slice na nn nc, .slice ma mn mc] 26)
    have hal := (Gr.alloc w3 (.cells #[.slice na nn nc, .slice ma mn mc] 26)).below
    have hp3 := Nat.lt_of_lt_of_le hp2 hb3.size
    have H49 := Lib.hid hrow9
    have H44 := Lib.hid ((hal.block _ hp3).trans ((hb3.block _ hp2).trans HR2.out))
    have HB4 := Lib.hid (below_on HB3.out (Nat.le_refl _) hal)
    have h34 : w3.heap.size < (w3.alloc (.cells #[.slice na nn nc, .slice ma mn mc] 26)).heap.size := by simp
    have HN4 := Lib.hid (obj_keep HNS.out (fun k hk => Nat.lt_trans hk h34) (Keeps.of_below hal fun _ h => h))
    have HO4 := Lib.hid (obj_keep (obj_on HO.out HB4.out) (fun k hk => Nat.lt_trans hk (Nat.lt_trans hp3 h34)) Keeps.refl)
    have x0 := box_at H44.out 0 rfl
    have x1 := box_at H44.out 1 rfl
    clear hx hb3 hrow9 hal c0 c1
    go_wp2_with fail
    clear x0 x1
    generalize hw4 : World.alloc w3 _ = w4 at *
    clear hw4 HNS HO HR2 HB2 HB3 HAL
    have hp4 := Nat.lt_trans hp3 h34
    refine (prog_addschema_any w4.heap.size o _ _ n ow w4 HO4.out (Nat.le_refl _) HSM.out).mono ?_
    rintro e w5 ⟨gs, gt, rfl, hg, hb5⟩
    obtain ⟨r, hr⟩ : ∃ r, addSchemaF o n ow = r := ⟨_, rfl⟩
    have HR1 := Lib.hid hr
    rw [hr] at hg ⊢
    clear hr
    obtain ⟨G, eg⟩ := r
    simp only at hg ⊢
    obtain ⟨ga, gn, gc, ga', gn', gc', rfl, rfl⟩ := hg.shape
    have hal := (Gr.alloc w5 (.cells #[.slice ga gn gc, .slice ga' gn' gc'] 26)).below
    have HX8 := Lib.hid (heap_alloc_new w5 (.cells #[.slice ga gn gc, .slice ga' gn' gc'] 26))
    have h56 : w5.heap.size < (w5.alloc (.cells #[.slice ga gn gc, .slice ga' gn' gc'] 26)).heap.size := by simp
    have h45 := hb5.size
    have HG6 := Lib.hid (obj_keep hg (S' := fun k => (w4.heap.size ≤ k ∧ k < w5.heap.size) ∧ Soft (w5.alloc (.cells #[.slice ga gn gc, .slice ga' gn' gc'] 26)) k) (fun k hk => ⟨⟨hk.1, hk.lt⟩, hk.2.below hal⟩) (Keeps.of_below hal fun k hk => hk.lt))
    have HB6 := Lib.hid (below_on hb5 (Nat.le_refl _) hal)
    have y0 := box_at ((HB6.out.block _ h34).trans H49.out) 0 rfl
    have y1 := box_at ((HB6.out.block _ h34).trans H49.out) 1 rfl
    clear hg hal hb5
    go_wp2_with fail
    clear y0 y1
    generalize hw6 : World.alloc w5 _ = w6 at *
    clear hw6
    refine (ref_addschema_any w4.heap.size o _ _ n ow w6 (obj_on HN4.out HB6.out) HB6.out.size HSM.out).mono ?_
    rintro e w7 ⟨ws, wt, rfl, hw, hb7⟩
    rw [HR1.out] at hw ⊢
    simp only at hw ⊢
    obtain ⟨wa, wn, wc, wa', wn', wc', rfl, rfl⟩ := hw.shape
    have hal := (Gr.alloc w7 (.cells #[.slice wa wn wc, .slice wa' wn' wc'] 26)).below
    have HX10 := Lib.hid (heap_alloc_new w7 (.cells #[.slice wa wn wc, .slice wa' wn' wc'] 26))
    have h78 : w7.heap.size < (w7.alloc (.cells #[.slice wa wn wc, .slice wa' wn' wc'] 26)).heap.size := by simp
    have h67 := hb7.size
    have H68 := Lib.hid (below_on hb7 (Nat.le_refl _) hal)
    have HV8 := Lib.hid (obj_keep hw (S' := (· < w7.heap.size)) (fun k hk => hk.lt) (Keeps.of_below hal fun k hk => hk.lt))
    have HB8 := Lib.hid (below_on HB6.out (Nat.le_refl _) H68.out)
    have x0 := box_at ((HB8.out.block _ hp4).trans H44.out) 0 rfl
    have x1 := box_at ((HB8.out.block _ hp4).trans H44.out) 1 rfl
    clear hw hal hb7
    go_wp2_with fail
    clear x0 x1
    generalize hw8 : World.alloc w7 _ = w8 at *
    clear hw8
    refine (prog_dropschema_any w4.heap.size o _ _ n w8 (obj_on HO4.out HB8.out) HB8.out.size HSM.out).mono ?_
    rintro e w9 ⟨js, jt, rfl, hj, hb9⟩
    obtain ⟨r, hr⟩ : ∃ r, dropSchemaF o n = r := ⟨_, rfl⟩
    have HR2 := Lib.hid hr
    rw [hr] at hj ⊢
    clear hr
    obtain ⟨J, ej⟩ := r
    simp only at hj ⊢
    obtain ⟨ja, jn, jc, ja', jn', jc', rfl, rfl⟩ := hj.shape
    have hal := (Gr.alloc w9 (.cells #[.slice ja jn jc, .slice ja' jn' jc'] 26)).below
    have HX12 := Lib.hid (heap_alloc_new w9 (.cells #[.slice ja jn jc, .slice ja' jn' jc'] 26))
    have h910 : w9.heap.size < (w9.alloc (.cells #[.slice ja jn jc, .slice ja' jn' jc'] 26)).heap.size := by simp
    have h89 := hb9.size
    have H810 := Lib.hid (below_on hb9 (Nat.le_refl _) hal)
    have HJ10 := Lib.hid (obj_keep hj (S' := fun k => (w8.heap.size ≤ k ∧ k < w9.heap.size) ∧ Soft (w9.alloc (.cells #[.slice ja jn jc, .slice ja' jn' jc'] 26)) k) (fun k hk => ⟨⟨hk.1, hk.lt⟩, hk.2.below hal⟩) (Keeps.of_below hal fun k hk => hk.lt))
    have HB10 := Lib.hid (below_on HB8.out (Nat.le_refl _) H810.out)
    have y0 := box_at ((HB10.out.block _ h34).trans H49.out) 0 rfl
    have y1 := box_at ((HB10.out.block _ h34).trans H49.out) 1 rfl
    clear hj hal hb9
    go_wp2_with fail
    clear y0 y1
    generalize hw10 : World.alloc w9 _ = w10 at *
    clear hw10
    refine (ref_dropschema_any w4.heap.size o _ _ n w10 (obj_on HN4.out HB10.out) HB10.out.size HSM.out).mono ?_
    rintro e w11 ⟨qs, qt, rfl, hq, hb11⟩
    rw [HR2.out] at hq ⊢
    simp only at hq ⊢
    obtain ⟨qa, qn, qc, qa', qn', qc', rfl, rfl⟩ := hq.shape
    have hal := (Gr.alloc w11 (.cells #[.slice qa qn qc, .slice qa' qn' qc'] 26)).below
    have HX14 := Lib.hid (heap_alloc_new w11 (.cells #[.slice qa qn qc, .slice qa' qn' qc'] 26))
    have h1112 : w11.heap.size < (w11.alloc (.cells #[.slice qa qn qc, .slice qa' qn' qc'] 26)).heap.size := by simp
    have h1011 := hb11.size
    have H1012 := Lib.hid (below_on hb11 (Nat.le_refl _) hal)
    have HQ12 := Lib.hid (obj_keep hq (S' := fun k => w10.heap.size ≤ k ∧ k < w11.heap.size) (fun k hk => ⟨hk.1, hk.lt⟩) (Keeps.of_below hal fun k hk => hk.lt))
    clear hq hal hb11
    go_wp2_with fail
    generalize hw12 : World.alloc w11 _ = w12 at *
    clear hw12
    refine (law07_schemas_any w12).mono ?_
    rintro e w13 ⟨rfl, hb13⟩
    have h1013 := below_on H1012.out (Nat.le_refl _) hb13
    have h813 := below_on H810.out (Nat.le_refl _) h1013
    have h613 := below_on H68.out (Nat.le_refl _) h813
    have HB13 := Lib.hid (HB6.out.trans (h613.mono HB6.out.size))
    have z4 := (HB13.out.block _ hp4).trans H44.out
    have z9 := (HB13.out.block _ h34).trans H49.out
    have z8 := (h613.block _ h56).trans HX8.out
    have z10 := (h813.block _ h78).trans HX10.out
    have z12 := (h1013.block _ h910).trans HX12.out
    have z14 := (hb13.block _ h1112).trans HX14.out
    have a0 := box_at z4 0 rfl
    have a1 := box_at z4 1 rfl
    have b0 := box_at z9 0 rfl
    have b1 := box_at z9 1 rfl
    have c0 := box_at z8 0 rfl
    have c1 := box_at z8 1 rfl
    have d0 := box_at z10 0 rfl
    have d1 := box_at z10 1 rfl
    have hs6 := HB6.out.size
    have hs613 := h613.size
    have hs813 := h813.size
    have hs1013 := h1013.size
    have hs1213 := hb13.size
    have htold := (told_any w4.heap.size (fun k => w4.heap.size ≤ k ∧ k < w5.heap.size) (fun k hk => hk.1) G G o o _ _ _ _ _ _ _ _ eg eg w13 HB13.out.size
      (obj_keep HG6.out (fun k hk => ⟨hk.1, hk.2.below h613⟩) (Keeps.of_below h613 fun k hk => hk.2.lt))
      (obj_keep HV8.out (fun k (hk : k < w7.heap.size) => show k < w13.heap.size by omega) (Keeps.of_below h813 fun k hk => Nat.lt_trans hk h78))
      (obj_on HO4.out HB13.out) (obj_on HN4.out HB13.out))
    rw [show ((decide (eg = eg) && decide (G = G)) && decide (o = o)) = true by simp] at htold
    have HTOLD := Lib.hid htold
    have HJ13 := Lib.hid (obj_keep HJ10.out (S' := fun k => (w8.heap.size ≤ k ∧ k < w9.heap.size) ∧ Soft w13 k) (fun k hk => ⟨hk.1, hk.2.below h1013⟩) (Keeps.of_below h1013 fun k hk => hk.2.lt))
    have HQ13 := Lib.hid (obj_keep HQ12.out (fun _ h => h) (Keeps.of_below hb13 fun k hk => Nat.lt_trans hk.2 h1112))
    have Z4 := Lib.hid z4; have Z9 := Lib.hid z9; have Z12 := Lib.hid z12; have Z14 := Lib.hid z14
    clear hb13 h1013 h813 h613 z4 z9 z8 z10 z12 z14 htold
    go_wp2_with fail
    clear a0 a1 b0 b1 c0 c1 d0 d1
    refine HTOLD.out.mono ?_
    rintro e w14 ⟨rfl, hk14⟩
    have hs14 := hk14.size
    have a0 := box_at (hk14.row Z4.out ⟨by omega, fun h => by have := h.1; omega⟩) 0 rfl
    have a1 := box_at (hk14.row Z4.out ⟨by omega, fun h => by have := h.1; omega⟩) 1 rfl
    have b0 := box_at (hk14.row Z9.out ⟨by omega, fun h => by have := h.1; omega⟩) 0 rfl
    have b1 := box_at (hk14.row Z9.out ⟨by omega, fun h => by have := h.1; omega⟩) 1 rfl
    have c0 := box_at (hk14.row Z12.out ⟨by omega, fun h => by have := h.2; omega⟩) 0 rfl
    have c1 := box_at (hk14.row Z12.out ⟨by omega, fun h => by have := h.2; omega⟩) 1 rfl
    have d0 := box_at (hk14.row Z14.out ⟨by omega, fun h => by have := h.2; omega⟩) 0 rfl
    have d1 := box_at (hk14.row Z14.out ⟨by omega, fun h => by have := h.2; omega⟩) 1 rfl
    have hb14 : Below w4.heap.size w4 w14 := HB13.out.trans (hk14.below HB13.out.size fun j hj => ⟨by omega, fun h => by have := h.1; omega⟩)
    have htold := (told_any w4.heap.size (fun k => w8.heap.size ≤ k ∧ k < w9.heap.size) (fun k hk => by omega) J J o o _ _ _ _ _ _ _ _ ej ej w14 hb14.size
      (obj_keep HJ13.out (fun k hk => ⟨hk.1, hk.2.keep hk14 ⟨hk.2.lt, fun h => by omega⟩⟩) (hk14.mono fun k hk => ⟨hk.2.lt, fun h => by omega⟩))
      (obj_keep HQ13.out (fun k hk => show k < w14.heap.size by omega) (hk14.mono fun k hk => ⟨by omega, fun h => by omega⟩))
      (obj_on HO4.out hb14) (obj_on HN4.out hb14))
    rw [show ((decide (ej = ej) && decide (J = J)) && decide (o = o)) = true by simp] at htold
    have HT2 := Lib.hid htold
    have HB14 := Lib.hid hb14
    clear hk14 htold hb14
    go_wp2_with fail
    refine HT2.out.mono ?_
    rintro e w15 ⟨rfl, hk15⟩
    have HK := Lib.hid hk15
    clear hk15
    go_wp2_with fail
    go_ret
    have hs15 := HB14.out.size
    exact ⟨rfl, HB4.out.trans ((HB14.out.mono (Nat.le_of_lt hp4)).trans (HK.out.below (by omega) fun j hj => ⟨by omega, fun hT => by have := hT.1; omega⟩))⟩
end
end
end Go.Proofs.Yteaeccpmociphaa
