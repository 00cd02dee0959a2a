/-
  Merged: ObqG, ObqH, ObqI.
-/
import Derived.Test.YteaeccpmociphaaObrE
import Derived.Test.YteaeccpmociphaaObjS1
import Derived.Test.YteaeccpmociphaaObpO
import Derived.Test.YteaeccpmociphaaObjW
namespace Go.Proofs.Yteaeccpmociphaa
section
/-! Layer 7, the program, by contract: Find. -/
set_option linter.unusedVariables false
open Go.RowKit Go.Sort Go.Shelf

theorem tabI_none {l : List Tab} {s n : ByteArray} (h : tabI l s n < 0) : tabI l s n = -1 := by
  have : -1 ≤ tabI l s n := idxI_ge _ _
  omega
theorem okE_yes' {o : Objs} (h : rightB o = true) : okE o = 0 := by unfold okE; rw [if_pos h]
theorem okE_no' {o : Objs} (h : rightB o = false) : okE o = 63 := by unfold okE; rw [h]; rfl
set_option maxRecDepth 100000 in
set_option maxHeartbeats 16000000 in
theorem prog_find_any (B : Nat) (o : Objs) (vs vt : Value) (s n : ByteArray) (w : World) (ho : objP w (· < B) [vs, vt] o) (hB : B ≤ w.heap.size) (hsm : smallO 3000 o) :
    Calls Try.prog 16 #[.agg #[vs, vt], .string s, .string n] w (FindPost w (findF o s n)) := by
  have HI : Hid ((Try.prog.info? 35).map (·.size) = some 5) := Lib.hid (by kernel_rfl)
  have HON : Hid ((#[.string ⟨#[]⟩, .string ⟨#[]⟩, .string ⟨#[]⟩, .slice none 0 0, .slice none 0 0] : Array Value).all (·.oneCell') = true) := Lib.hid (by kernel_rfl)
  have HOP := Lib.hid (openedT ho hB)
  obtain ⟨_, _, hv, hss, hts⟩ := ho
  simp only [List.cons.injEq, and_true] at hv
  obtain ⟨rfl, rfl⟩ := hv
  obtain ⟨sa, sc, rfl, hsc1, hsc2⟩ := hss.form
  obtain ⟨ta, tc, rfl, htc1, htc2⟩ := hts.form
  obtain ⟨sn, hsn⟩ : ∃ sn, o.schemas.length = sn := ⟨_, rfl⟩
  obtain ⟨tn, htn⟩ : ∃ tn, o.tables.length = tn := ⟨_, rfl⟩
  rw [hsn] at HOP ⊢
  rw [htn] at HOP hts htc1 ⊢
  unfold maxLen at htc2
  have HTN := Lib.hid htn; have HTS := Lib.hid hts
  have HSM := Lib.hid hsm
  clear hss hts hsn htn hsm
  go_enter Try.func16, Try.ntmps16
  go_wp2_with fail
  generalize World.alloc (World.alloc w _) _ = w0 at *
  refine (prog_check_any B o _ _ w0 (HOP.out.at (Below.refl _ _)).1 (HOP.out.at (Below.refl _ _)).2.1 HSM.out).mono ?_
  rintro e w1 ⟨rfl, g1⟩
  have HB1 := Lib.hid g1
  have v0_1 := box_at (HOP.out.at HB1.out).2.2.1 0 rfl
  have v1_1 := box_at (HOP.out.at HB1.out).2.2.1 1 rfl
  clear g1
  cases hr : rightB o with
  | false =>
    rw [okE_no' hr]
    have HF := Lib.hid (show findF o s n = (noT, 63) from by unfold findF; rw [if_pos hr])
    have HG9 := Lib.hid (HOP.out.at HB1.out).2.2.2.1
    have HROW9 := Lib.hid (setRow_heap _ _ _ #[.string ⟨#[]⟩, .string ⟨#[]⟩, .string ⟨#[]⟩, .slice none 0 0, .slice none 0 0] _ _ HG9.out)
    go_wp2_with (refine wpList_store_box rfl 35 _ _ rfl (w.heap.size + 1) 35 _ #[.string ⟨#[]⟩, .string ⟨#[]⟩, .string ⟨#[]⟩, .slice none 0 0, .slice none 0 0] rfl rfl HG9.out HI.out rfl HON.out ?_)
    refine bodyPost_ret (results_box_tmp rfl _ _ (w.heap.size + 1) _ _ (0, 0) _ rfl HROW9.out Try.underlying35 rfl HI.out) rfl ?_
    rw [HF.out]
    exact HOP.out.close HB1.out (r := (noT, 63)) (no_tab _ _)
  | true =>
    rw [okE_yes' hr]
    go_wp2_with fail
    refine (prog_place_any B o _ _ s n w1 (HOP.out.at HB1.out).1 (HOP.out.at HB1.out).2.1).mono ?_
    rintro e w2 ⟨rfl, g2⟩
    have HB2 := Lib.hid (below_on HB1.out (Nat.le_refl _) g2)
    have v0_2 := box_at (HOP.out.at HB2.out).2.2.1 0 rfl
    have v1_2 := box_at (HOP.out.at HB2.out).2.2.1 1 rfl
    clear g2
    by_cases ht : tabI o.tables s n < 0
    · have hm1 := tabI_none ht
      rw [hm1]
      have HF := Lib.hid (show findF o s n = (noT, 61) from by unfold findF; rw [if_neg (by rw [hr]; simp), if_pos ht])
      have HG9 := Lib.hid (HOP.out.at HB2.out).2.2.2.1
      have HROW9 := Lib.hid (setRow_heap _ _ _ #[.string ⟨#[]⟩, .string ⟨#[]⟩, .string ⟨#[]⟩, .slice none 0 0, .slice none 0 0] _ _ HG9.out)
      go_wp2_with (refine wpList_store_box rfl 35 _ _ rfl (w.heap.size + 1) 35 _ #[.string ⟨#[]⟩, .string ⟨#[]⟩, .string ⟨#[]⟩, .slice none 0 0, .slice none 0 0] rfl rfl HG9.out HI.out rfl HON.out ?_)
      refine bodyPost_ret (results_box_tmp rfl _ _ (w.heap.size + 1) _ _ (0, 0) _ rfl HROW9.out Try.underlying35 rfl HI.out) rfl ?_
      rw [HF.out]
      exact HOP.out.close HB2.out (r := (noT, 61)) (no_tab _ _)
    obtain ⟨k, hk, hke, hka⟩ := tab_at ht
    have HF := Lib.hid (show findF o s n = (o.tables[k], 0) from by unfold findF; rw [if_neg (by rw [hr]; simp), if_neg ht, hka])
    rw [hke]
    have k0 : ¬ ((k : Int) < 0) := by omega
    have k0' : (0 : Int) ≤ (k : Int) := by omega
    have km : ((k : Int) == -1) = false := by simp
    have kn : ¬ ((k : Int) = -1) := by omega
    have k1 : (k : Int) < (tn : Int) := by have := HTN.out; omega
    have hsT := HSM.out.2.2 k hk
    obtain ⟨b, q, x, rfl, hbB, hxr, hxl⟩ := HTS.out.at hk
    have hbl : b < w.heap.size := Nat.lt_of_lt_of_le hbB HOP.out.base
    have hwl := (HOP.out.at HB2.out).2.2.2.2.1
    have hws := (HOP.out.at HB2.out).2.2.2.2.2
    generalize o.tables[k] = t at *
    obtain ⟨vc, vr, rfl, hvc, hvr⟩ := hxr
    have c0 : w2.cell? ⟨b, q + k * 5, none⟩ = _ := (hwl.cell (p := ⟨b, q + k * 5 + 0, none⟩) hbl).trans (hxl 0 _ rfl)
    have c1 := (hwl.cell (p := ⟨b, q + k * 5 + 1, none⟩) hbl).trans (hxl 1 _ rfl)
    have c2 := (hwl.cell (p := ⟨b, q + k * 5 + 2, none⟩) hbl).trans (hxl 2 _ rfl)
    have c3 := (hwl.cell (p := ⟨b, q + k * 5 + 3, none⟩) hbl).trans (hxl 3 _ rfl)
    have c4 := (hwl.cell (p := ⟨b, q + k * 5 + 4, none⟩) hbl).trans (hxl 4 _ rfl)
    have hkB : Keeps (· < B) w w2 := Keeps.of_below hwl fun j hj => Nat.lt_of_lt_of_le hj HOP.out.base
    have HCP := Lib.hid (prog_copytable_any B t vc vr w2 (cols_keep hvc (fun _ h => h) hkB) (ruls_keep hvr (fun _ h => h) hkB) (HOP.out.at HB2.out).2.1 hsT)
    clear hxl hvc hvr hkB
    go_wp2_with fail
    refine HCP.out.mono ?_
    rintro e w4 ⟨vc', vr', rfl, hc', hr', hb4⟩
    have HB4 := Lib.hid (below_on HB2.out (Nat.le_refl _) hb4)
    have htp : tabP w4 (fun k => Sf w.heap.size w4 k ∧ k ≠ w.heap.size + 1) (tabV t vc' vr') t := ⟨vc', vr', rfl, cols_keep (hc'.lst col_stays) (fun k hk => ⟨hk.mono (by omega), by have := hk.1; omega⟩) Keeps.refl, ruls_keep (hr'.lst rul_stays) (fun k hk => ⟨hk.mono (by omega), by have := hk.1; omega⟩) Keeps.refl⟩
    have HTP := Lib.hid htp
    obtain ⟨_, _, rfl, _, _⟩ := hc'.form
    obtain ⟨_, _, rfl, _, _⟩ := hr'.form
    have HG9 := Lib.hid (HOP.out.at HB4.out).2.2.2.1
    generalize hcv : Value.slice _ t.cols.length _ = vcv at *
    generalize hrv : Value.slice _ t.rules.length _ = vrv at *
    have HO5 : Hid ((#[.string t.schema, .string t.name, .string t.owner, vcv, vrv] : Array Value).all (·.oneCell') = true) := Lib.hid (by subst hcv hrv; kernel_rfl)
    have HROW9 := Lib.hid (setRow_heap _ _ _ #[.string t.schema, .string t.name, .string t.owner, vcv, vrv] _ _ HG9.out)
    clear hc' hr' hb4 htp hcv hrv
    go_wp2_with (refine wpList_store_box rfl 35 _ _ rfl (w.heap.size + 1) 35 _ #[.string t.schema, .string t.name, .string t.owner, vcv, vrv] rfl rfl HG9.out HI.out rfl HO5.out ?_)
    refine bodyPost_ret (results_box_tmp rfl _ _ (w.heap.size + 1) _ _ (0, 0) _ rfl HROW9.out Try.underlying35 rfl HI.out) rfl ?_
    rw [HF.out]
    exact HOP.out.close HB4.out (r := (t, 0)) HTP.out
end

section
/-! Layer 7, the program, by contract: changed, over any closure. -/
set_option linter.unusedVariables false
open Go.RowKit Go.Sort Go.Shelf

/-- What a change makes of objects that lie in a box b, in memory of their own behind B1. -/
def ChPost (b B1 : Nat) (W : World) (r : Objs × Int) (e : Ending) (w' : World) : Prop :=
  e = .returned (.int .i64 r.2) ∧ Keeps (fun k => k < B1 ∧ k ≠ b) W w' ∧ (r.2 = 0 → ∃ vs vt, w'.heap[b]? = some (.cells #[vs, vt] 26 (0, 0)) ∧ objP w' (Sf B1 w') [vs, vt] r.1)
theorem close2 {w W : World} {p1 : Nat} {vs' vt' : Value} {r : Objs × Int} (hW : Below w.heap.size w W) (hp : w.heap.size ≤ p1) (hr : objP W (fun k => Sf w.heap.size W k ∧ k ≠ p1) [vs', vt'] r.1) :
    OutPost w r (.returned (.tuple #[.agg #[vs', vt'], .int .i64 r.2])) (W.setRow p1 #[vs', vt']) := by
  have hkB : Keeps (fun j => j ≠ p1) W (W.setRow p1 #[vs', vt']) := ⟨rfl, rfl, rfl, by simp, fun j _ hj => setRow_other _ _ _ _ hj⟩
  exact ⟨_, _, rfl, obj_keep hr (fun k hk => hk.1.keep hkB hk.2) (hkB.mono fun k hk => hk.2), hW.trans (hkB.below hW.size fun j hj => by omega)⟩

set_option maxRecDepth 100000 in
set_option maxHeartbeats 8000000 in
theorem prog_changed_any (B : Nat) (o : Objs) (vs vt : Value) (g : Nat) (lb : Array Value) (F G : Objs × Int) (w : World) (ho : objP w (· < B) [vs, vt] o) (hB : B ≤ w.heap.size) (hsm : smallO 3000 o)
    (eg : ∀ args w, (callFunc g args).run Try.prog w = .ok (.enter g args) w)
    (hcl : ∀ W vs' vt' B1, w.heap.size + 2 ≤ B1 → B1 ≤ W.heap.size → W.heap[w.heap.size]? = some (.cells #[vs', vt'] 26 (0, 0)) → objY W B1 vs' vt' o → Below w.heap.size w W → rightB o = true →
      Calls Try.prog g (#[.pointer (some ⟨w.heap.size, 0, none⟩)] ++ lb) W (ChPost w.heap.size B1 W F))
    (hF : F.2 ≠ 0 → F.1 = noO) (hG1 : rightB o = false → G = (noO, 63)) (hG2 : rightB o = true → G = F) :
    Calls Try.prog 50 #[.agg #[vs, vt], .func (.func g) #[] lb] w (OutPost w G) := by
  obtain ⟨F1, q⟩ := F
  simp only at hF
  have HI : Hid ((Try.prog.info? 26).map (·.size) = some 2) := Lib.hid (by kernel_rfl)
  have HON : Hid ((#[.slice none 0 0, .slice none 0 0] : Array Value).all (·.oneCell') = true) := Lib.hid (by kernel_rfl)
  have HOP := Lib.hid (opened ho hB)
  have HSM := Lib.hid hsm; have HCL := Lib.hid hcl; have HF := Lib.hid hF; have HG1 := Lib.hid hG1; have HG2 := Lib.hid hG2
  obtain ⟨_, _, hv, hss, hts⟩ := ho
  simp only [List.cons.injEq, and_true] at hv
  obtain ⟨rfl, rfl⟩ := hv
  obtain ⟨sa, sc, rfl, hsc1, hsc2⟩ := hss.form
  obtain ⟨ta, tc, rfl, htc1, htc2⟩ := hts.form
  obtain ⟨sn, hsn⟩ : ∃ sn, o.schemas.length = sn := ⟨_, rfl⟩
  obtain ⟨tn, htn⟩ : ∃ tn, o.tables.length = tn := ⟨_, rfl⟩
  rw [hsn] at HOP ⊢
  rw [htn] at HOP ⊢
  clear hss hts hsm hsn htn hcl hF hG1 hG2
  go_enter Try.func50, Try.ntmps50
  go_wp2_with fail
  generalize World.alloc (World.alloc w _) _ = w0 at *
  have HB0 := Lib.hid (Below.refl w0.heap.size w0)
  refine (prog_check_any B o _ _ w0 (HOP.out.at HB0.out).1 (HOP.out.at HB0.out).2.1 HSM.out).mono ?_
  rintro e w1 ⟨rfl, g1⟩
  have HB1 := Lib.hid g1
  have v0_1 := box_at (HOP.out.at HB1.out).2.2.1 0 rfl
  have v1_1 := box_at (HOP.out.at HB1.out).2.2.1 1 rfl
  clear g1
  cases hr : rightB o with
  | false =>
    rw [okE_no' hr]
    have HE := Lib.hid (HG1.out hr)
    have HG9 := Lib.hid (HOP.out.at HB1.out).2.2.2.1
    have HROW9 := Lib.hid (setRow_heap _ _ _ #[.slice none 0 0, .slice none 0 0] _ _ HG9.out)
    go_wp2_with (refine wpList_store_box rfl 26 _ _ rfl (w.heap.size + 1) 26 _ #[.slice none 0 0, .slice none 0 0] rfl rfl HG9.out HI.out rfl HON.out ?_)
    refine bodyPost_ret (results_box_tmp rfl _ _ (w.heap.size + 1) _ _ (0, 0) _ rfl HROW9.out Try.underlying26 rfl HI.out) rfl ?_
    rw [HE.out]
    exact HOP.out.close HB1.out (r := (noO, 63)) (no_obj _ _)
  | true =>
    rw [okE_yes' hr]
    have HE := Lib.hid (HG2.out hr)
    have HR := Lib.hid hr
    go_wp2_with fail
    refine (prog_copyobjs_any B o _ _ w1 (HOP.out.at HB1.out).1 (HOP.out.at HB1.out).2.1 HSM.out).mono ?_
    rintro e w2 ⟨vs', vt', rfl, hox, hb2⟩
    have HB2 := Lib.hid (below_on HB1.out (Nat.le_refl _) hb2)
    have hws := HOP.out.size
    have hw1 := HB1.out.size
    have hw2 := hb2.size
    have HG := Lib.hid (HOP.out.at HB2.out).2.2.1
    obtain ⟨va, vcap, rfl, _, _⟩ := hox.objX.1.form
    obtain ⟨xa, xcap, rfl, _, _⟩ := hox.objX.2.form
    have HOE : Hid ((#[.slice va o.schemas.length vcap, .slice xa o.tables.length xcap] : Array Value).all (·.oneCell') = true) := Lib.hid (by kernel_rfl)
    have hrow := setRow_heap _ _ _ #[.slice va o.schemas.length vcap, .slice xa o.tables.length xcap] _ _ HG.out
    have hkB : Keeps (fun j => j ≠ w.heap.size) w2 (w2.setRow w.heap.size #[.slice va o.schemas.length vcap, .slice xa o.tables.length xcap]) := ⟨rfl, rfl, rfl, by simp, fun j _ hj => setRow_other _ _ _ _ hj⟩
    have hbW : Below w.heap.size w (w2.setRow w.heap.size #[.slice va o.schemas.length vcap, .slice xa o.tables.length xcap]) := (HOP.out.at HB2.out).2.2.2.2.1.trans (hkB.below (by omega) fun j hj => by omega)
    have HCALL := Lib.hid (HCL.out (w2.setRow w.heap.size #[.slice va o.schemas.length vcap, .slice xa o.tables.length xcap]) _ _ w1.heap.size (by omega) (Nat.le_trans hw2 hkB.size) hrow
      (hox.keep hkB fun j hj => by have := hj.1; omega) hbW HR.out)
    have HRES := Lib.hid (hkB.row (HOP.out.at HB2.out).2.2.2.1 (by omega))
    have HBW := Lib.hid hbW
    have HW12 := Lib.hid (Nat.le_trans hw2 hkB.size)
    clear hox hb2 hrow hkB hbW
    have hs1 : w.heap.size + 2 ≤ w1.heap.size := by omega
    by_cases hq : q = 0
    · subst hq
      go_wp2_with (first
        | (refine wpList_store_box rfl 26 _ _ rfl w.heap.size 26 _ #[.slice va o.schemas.length vcap, .slice xa o.tables.length xcap] rfl rfl HG.out HI.out rfl HOE.out ?_)
        | (go_at_fn g
           refine HCALL.out.mono ?_
           rintro e w3 ⟨rfl, hk3, hr3⟩
           obtain ⟨vs3, vt3, hrow3, hob3⟩ := hr3 rfl
           have hob4 := hob3
           obtain ⟨_, _, hv3, hss3, hts3⟩ := hob4
           simp only [List.cons.injEq, and_true] at hv3
           obtain ⟨rfl, rfl⟩ := hv3
           obtain ⟨a3, cap3, rfl, _, _⟩ := hss3.form
           obtain ⟨a4, cap4, rfl, _, _⟩ := hts3.form
           obtain ⟨n3, hn3⟩ : ∃ n, F1.schemas.length = n := ⟨_, rfl⟩
           obtain ⟨n4, hn4⟩ : ∃ n, F1.tables.length = n := ⟨_, rfl⟩
           rw [hn3, hn4] at hrow3 hob3
           have d0 := box_at hrow3 0 rfl
           have d1 := box_at hrow3 1 rfl
           have HG3 := Lib.hid (hk3.row HRES.out ⟨by omega, by omega⟩)
           have HO3 : Hid ((#[.slice a3 n3 cap3, .slice a4 n4 cap4] : Array Value).all (·.oneCell') = true) := Lib.hid (by kernel_rfl)
           have HROW3 := Lib.hid (setRow_heap _ _ _ #[.slice a3 n3 cap3, .slice a4 n4 cap4] _ _ HG3.out)
           have HK3 := Lib.hid hk3; have HOB3 := Lib.hid hob3
           clear hk3 hr3 hrow3 hob3 hss3 hts3 hn3 hn4)
        | (refine wpList_store_box rfl 26 _ _ rfl (w.heap.size + 1) 26 _ #[.slice a3 n3 cap3, .slice a4 n4 cap4] rfl rfl HG3.out HI.out rfl HO3.out ?_))
      refine bodyPost_ret (results_box_tmp rfl _ _ (w.heap.size + 1) _ _ (0, 0) _ rfl HROW3.out Try.underlying26 rfl HI.out) rfl ?_
      rw [HE.out]
      exact close2 (r := (F1, 0)) (HBW.out.trans (HK3.out.below HBW.out.size fun j hj => ⟨by omega, by omega⟩)) (by omega) (obj_keep HOB3.out (fun k hk => ⟨hk.mono (by omega), by have := hk.1; omega⟩) Keeps.refl)
    · have hno := HF.out hq
      subst hno
      have hqb : (q != 0) = true := by simpa using hq
      go_wp2_with (first
        | (refine wpList_store_box rfl 26 _ _ rfl w.heap.size 26 _ #[.slice va o.schemas.length vcap, .slice xa o.tables.length xcap] rfl rfl HG.out HI.out rfl HOE.out ?_)
        | (go_at_fn g
           refine HCALL.out.mono ?_
           rintro e w3 ⟨rfl, hk3, hr3⟩
           have HG3 := Lib.hid (hk3.row HRES.out ⟨by omega, by omega⟩)
           have HROW3 := Lib.hid (setRow_heap _ _ _ #[.slice none 0 0, .slice none 0 0] _ _ HG3.out)
           have HK3 := Lib.hid hk3
           clear hk3 hr3)
        | (refine wpList_store_box rfl 26 _ _ rfl (w.heap.size + 1) 26 _ #[.slice none 0 0, .slice none 0 0] rfl rfl HG3.out HI.out rfl HON.out ?_))
      refine bodyPost_ret (results_box_tmp rfl _ _ (w.heap.size + 1) _ _ (0, 0) _ rfl HROW3.out Try.underlying26 rfl HI.out) rfl ?_
      rw [HE.out]
      exact close2 (r := (noO, q)) (HBW.out.trans (HK3.out.below HBW.out.size fun j hj => ⟨by omega, by omega⟩)) (by omega) (no_obj _ _)
end

section
/-! Layer 7, the program, by contract: changeTable, over any closure; SetOwner. -/
set_option linter.unusedVariables false
open Go.RowKit Go.Sort Go.Shelf

theorem alloc5 (w : World) (c0 c1 c2 c3 c4 : Obj) : (((((w.alloc c0).alloc c1).alloc c2).alloc c3).alloc c4).heap[w.heap.size + 1]? = some c1 ∧ (((((w.alloc c0).alloc c1).alloc c2).alloc c3).alloc c4).heap[w.heap.size + 2]? = some c2 ∧
    (((((w.alloc c0).alloc c1).alloc c2).alloc c3).alloc c4).heap[w.heap.size + 3]? = some c3 ∧ (((((w.alloc c0).alloc c1).alloc c2).alloc c3).alloc c4).heap[w.heap.size + 4]? = some c4 := by
  have e1 := size_box w c0
  have e2 := size_box (w.alloc c0) c1
  have e3 := size_box ((w.alloc c0).alloc c1) c2
  have e4 := size_box (((w.alloc c0).alloc c1).alloc c2) c3
  have h1 := heap_alloc_new (w.alloc c0) c1
  have h2 := heap_alloc_new ((w.alloc c0).alloc c1) c2
  have h3 := heap_alloc_new (((w.alloc c0).alloc c1).alloc c2) c3
  have h4 := heap_alloc_new ((((w.alloc c0).alloc c1).alloc c2).alloc c3) c4
  rw [e1] at e2 h1
  rw [e2] at e3 h2
  rw [e3] at e4 h3
  rw [e4] at h4
  refine ⟨?_, ?_, ?_, h4⟩
  · rw [Below.heap_alloc _ _ _ (by omega), Below.heap_alloc _ _ _ (by omega), Below.heap_alloc _ _ _ (by omega)]; exact h1
  · rw [Below.heap_alloc _ _ _ (by omega), Below.heap_alloc _ _ _ (by omega)]; exact h2
  · rw [Below.heap_alloc _ _ _ (by omega)]; exact h3
theorem ChPost.of_below {b B1 : Nat} {W W2 w' : World} {r : Objs × Int} {e : Ending} (h : ChPost b B1 W2 r e w') (hb : Below W.heap.size W W2) (hB : B1 ≤ W.heap.size) : ChPost b B1 W r e w' :=
  ⟨h.1, (Keeps.of_below (S := fun k => k < B1 ∧ k ≠ b) hb fun k hk => by omega).trans h.2.1, h.2.2⟩

set_option maxRecDepth 100000 in
set_option maxHeartbeats 8000000 in
theorem prog_chtab_any (b B1 : Nat) (o : Objs) (vs vt : Value) (s n : ByteArray) (g : Nat) (lb : Array Value) (F : Objs × Int) (W : World) (hbox : W.heap[b]? = some (.cells #[vs, vt] 26 (0, 0))) (hx : objX W B1 vs vt o) (hB : B1 ≤ W.heap.size) (hb : b < B1)
    (eg : ∀ args w, (callFunc g args).run Try.prog w = .ok (.enter g args) w)
    (hcl : ∀ W2 k gt cap, tabI o.tables s n = (k : Nat) → k < o.tables.length → vt = .slice (some ⟨gt, 0, none⟩) o.tables.length cap → W2.heap[b]? = some (.cells #[vs, vt] 26 (0, 0)) → objX W2 B1 vs vt o → B1 ≤ W2.heap.size → Below W.heap.size W W2 →
      Calls Try.prog g (#[.pointer (some ⟨gt, k * 5, none⟩)] ++ lb) W2 (ChPost b B1 W2 F))
    (hF : tabI o.tables s n < 0 → F = (noO, 61)) :
    Calls Try.prog 52 #[.pointer (some ⟨b, 0, none⟩), .string s, .string n, .func (.func g) #[] lb] W (ChPost b B1 W F) := by
  obtain ⟨va, vcap, rfl, _, _⟩ := hx.1.form
  obtain ⟨xa, xcap, rfl, hxc, hxm⟩ := hx.2.form
  unfold maxLen at hxm
  obtain ⟨n3, hn3⟩ : ∃ n, o.schemas.length = n := ⟨_, rfl⟩
  obtain ⟨n4, hn4⟩ : ∃ n, o.tables.length = n := ⟨_, rfl⟩
  have hpl := prog_place_any W.heap.size o _ _ s n W (obj_keep hx.obj (fun k hk => hk.lt) Keeps.refl) (Nat.le_refl _)
  rw [hn3, hn4] at hbox hpl
  have c0 := box_at hbox 0 rfl
  have c1 := box_at hbox 1 rfl
  have HP := Lib.hid hpl; have HCL := Lib.hid hcl; have HBOX := Lib.hid hbox; have HX := Lib.hid hx; have HF := Lib.hid hF
  have HN3 := Lib.hid hn3; have HN4 := Lib.hid hn4
  clear hpl hcl hbox hx hF
  rw [hn4] at hxc
  by_cases ht : tabI o.tables s n < 0
  · have hm1 := tabI_none ht
    rw [hm1] at HP
    have HE := Lib.hid (HF.out ht)
    clear hn3 hn4 hm1
    go_enter Try.func52, Try.ntmps52
    go_wp2_with (go_at_call 47; refine HP.out.mono ?_; rintro e w1 ⟨rfl, hb1⟩)
    go_ret
    rw [HE.out]
    exact ⟨rfl, Keeps.of_below hb1 fun k hk => by omega, fun h => by simp at h⟩
  · obtain ⟨k, hk, hke, hka⟩ := tab_at ht
    rw [hke] at HP
    have k0 : ¬ ((k : Int) < 0) := by omega
    have k0' : (0 : Int) ≤ (k : Int) := by omega
    have km : ((k : Int) == -1) = false := by simp
    have kn : ¬ ((k : Int) = -1) := by omega
    have k1 : (k : Int) < (n4 : Int) := by omega
    obtain ⟨gt, cap, x, hv, _, _, hgs, _, _⟩ := HX.out.2.at tab_stays hk
    injection hv with hv1 _ hv3
    subst hv1 hv3
    have HKE := Lib.hid hke; have HK := Lib.hid hk
    clear hn3 hn4 hke hka
    go_enter Try.func52, Try.ntmps52
    go_wp2_with (first
      | (go_at_call 47
         refine HP.out.mono ?_
         rintro e w1 ⟨rfl, hb1⟩
         have hbx := (hb1.block b (by omega)).trans HBOX.out
         have d1 := box_at hbx 1 rfl
         have d0 := box_at hbx 0 rfl
         have HCALL := Lib.hid (HCL.out w1 k gt xcap HKE.out HK.out rfl (by rw [HN3.out, HN4.out]; exact hbx) (objX.below HX.out hb1) (Nat.le_trans hB hb1.size) hb1)
         have HB1 := Lib.hid hb1
         clear hb1 hbx)
      | (go_at_fn g
         refine HCALL.out.mono ?_
         rintro e w2 hp
         obtain ⟨rfl, hk2, hr2⟩ := ChPost.of_below hp HB1.out hB))
    go_ret
    exact ⟨rfl, hk2, hr2⟩

theorem prog_setown11_any (b B1 q : Nat) (o : Objs) (vs : Value) (ow : ByteArray) (gt cap k : Nat) (W : World) (hbox : W.heap[b]? = some (.cells #[vs, .slice (some ⟨gt, 0, none⟩) o.tables.length cap] 26 (0, 0)))
    (hx : objX W B1 vs (.slice (some ⟨gt, 0, none⟩) o.tables.length cap) o) (hb : b < B1) (hk : k < o.tables.length) (hq : W.cell? ⟨q, 0, none⟩ = some (.string ow)) :
    Calls Try.prog 53 #[.pointer (some ⟨gt, k * 5, none⟩), .pointer (some ⟨q, 0, none⟩)] W (ChPost b B1 W (putTab o k (o.tables[k].withOwner ow), 0)) := by
  obtain ⟨g', cap', x, hv, _, _, hgs, hxr, hcl⟩ := hx.2.at tab_stays hk
  injection hv with hv1 _ hv3
  simp only [Option.some.injEq, Addr.mk.injEq, and_true] at hv1
  subst hv1 hv3
  obtain ⟨vc, vr, rfl, _, _⟩ := hxr
  have c2 := hcl 2 _ rfl
  have z2 := hgs.2.frozen (k * 5 + 2)
  have hset := objX.set hx (k := k) (j := 2) hk (by omega) (u := .string ow) (y := o.tables[k].withOwner ow) (fun x h => by obtain ⟨vc, vr, hx, h1, h2⟩ := h; exact ⟨vc, vr, by rw [hx]; rfl, h1, h2⟩)
  have hkp : Keeps (fun j => j < B1 ∧ j ≠ b) W (W.setCell ⟨gt, k * 5 + 2, none⟩ (.string ow)) := Keeps.refl.setCell (fun h => by have := hgs.1; have := h.1; simp at this; omega) _
  have hkp2 : Keeps (fun j => j < B1) W (W.setCell ⟨gt, k * 5 + 2, none⟩ (.string ow)) := Keeps.refl.setCell (fun h => by have := hgs.1; simp at h; omega) _
  have HS := Lib.hid hset; have HK := Lib.hid hkp; have HB := Lib.hid (hkp2.row hbox hb)
  clear hset hkp hkp2 hbox hx hcl
  go_enter Try.func53, Try.ntmps53
  go_wp2_with fail
  go_ret
  exact ⟨rfl, HK.out, fun _ => ⟨_, _, HB.out, HS.out.obj⟩⟩

/-- What the owner's change makes of objects that are right. -/
def setOwnF (o : Objs) (s n w : ByteArray) : Objs × Int :=
  if nameB w = false then (noO, 1) else if tabI o.tables s n < 0 then (noO, 61) else (putTab o (tabI o.tables s n).toNat ((tabA o s n).withOwner w), 0)
theorem prog_setown1_any (b B1 q q1 q2 : Nat) (o : Objs) (vs vt : Value) (s n ow : ByteArray) (W : World) (hbox : W.heap[b]? = some (.cells #[vs, vt] 26 (0, 0)))
    (hx : objX W B1 vs vt o) (hB : B1 ≤ W.heap.size) (hb : b < B1) (hq : W.cell? ⟨q, 0, none⟩ = some (.string ow)) (hq1 : W.cell? ⟨q1, 0, none⟩ = some (.string s)) (hq2 : W.cell? ⟨q2, 0, none⟩ = some (.string n)) :
    Calls Try.prog 51 #[.pointer (some ⟨b, 0, none⟩), .pointer (some ⟨q, 0, none⟩), .pointer (some ⟨q1, 0, none⟩), .pointer (some ⟨q2, 0, none⟩)] W (ChPost b B1 W (setOwnF o s n ow)) := by
  have HN := Lib.hid prog_name_any
  cases hn : nameB ow with
  | false =>
    have HE := Lib.hid (show setOwnF o s n ow = (noO, 1) by unfold setOwnF; rw [if_pos hn])
    clear hbox hx
    go_enter Try.func51, Try.ntmps51
    go_wp2_with (go_at_call 9; refine (HN.out ow _).mono ?_; rintro e w1 ⟨rfl, rfl⟩; rw [hn])
    go_ret
    rw [HE.out]
    exact ⟨rfl, Keeps.refl, fun h => by simp at h⟩
  | true =>
    have HC := Lib.hid (prog_chtab_any b B1 o vs vt s n 53 #[.pointer (some ⟨q, 0, none⟩)] (setOwnF o s n ow) W hbox hx hB hb (enters_of Try.func53 (by kernel_rfl) rfl)
      (fun W2 k gt cap hke hk hv hbx hx2 _ hb2 => by
        subst hv
        have he : setOwnF o s n ow = (putTab o k (o.tables[k].withOwner ow), 0) := by
          unfold setOwnF
          rw [if_neg (by rw [hn]; simp), hke, if_neg (by omega)]
          unfold tabA
          rw [hke]
          simp [List.getD_eq_getElem?_getD, List.getElem?_eq_getElem hk]
        rw [he]
        exact prog_setown11_any b B1 q o vs ow gt cap k W2 hbx hx2 hb hk ((hb2.cell (p := ⟨q, 0, none⟩) (World.block_lt_of_cell? W _ hq)).trans hq))
      (fun ht => by unfold setOwnF; rw [if_neg (by rw [hn]; simp), if_pos ht]))
    clear hbox hx
    go_enter Try.func51, Try.ntmps51
    go_wp2_with (first
      | (go_at_call 9; refine (HN.out ow _).mono ?_; rintro e w1 ⟨rfl, rfl⟩; rw [hn])
      | (go_at_call 52; refine HC.out.mono ?_; rintro e w1 ⟨rfl, hk2, hr2⟩))
    go_ret
    exact ⟨rfl, hk2, hr2⟩

set_option maxRecDepth 100000 in
set_option maxHeartbeats 8000000 in
theorem prog_setowner_any (B : Nat) (o : Objs) (vs vt : Value) (s n ow : ByteArray) (w : World) (ho : objP w (· < B) [vs, vt] o) (hB : B ≤ w.heap.size) (hsm : smallO 3000 o) :
    Calls Try.prog 19 #[.agg #[vs, vt], .string s, .string n, .string ow] w (OutPost w (setOwnerF o s n ow)) := by
  have HI : Hid ((Try.prog.info? 26).map (·.size) = some 2) := Lib.hid (by kernel_rfl)
  obtain ⟨_, _, hv, hss, hts⟩ := id ho
  simp only [List.cons.injEq, and_true] at hv
  obtain ⟨rfl, rfl⟩ := hv
  obtain ⟨sa, sc, rfl, _, _⟩ := hss.form
  obtain ⟨ta, tc, rfl, _, _⟩ := hts.form
  obtain ⟨sn, hsn⟩ : ∃ sn, o.schemas.length = sn := ⟨_, rfl⟩
  obtain ⟨tn, htn⟩ : ∃ tn, o.tables.length = tn := ⟨_, rfl⟩
  rw [hsn, htn] at ho ⊢
  clear hss hts hsn htn
  obtain ⟨w0, hw0⟩ : ∃ w0, w0 = ((((w.alloc (.cells #[.slice sa sn sc, .slice ta tn tc] 26)).alloc (.cells #[.string s] 9)).alloc (.cells #[.string n] 9)).alloc (.cells #[.string ow] 9)).alloc (.cells #[.slice none 0 0, .slice none 0 0] 26) := ⟨_, rfl⟩
  have hsz : w0.heap.size = w.heap.size + 5 := by rw [hw0]; simp
  have hbw : Below w.heap.size w w0 := by rw [hw0]; exact (((((Below.refl _ w).alloc (Nat.le_refl _) _).alloc (by simp) _).alloc (by simp; omega) _).alloc (by simp; omega) _).alloc (by simp; omega) _
  have hob : objP w0 (· < B) [.slice sa sn sc, .slice ta tn tc] o := obj_keep ho (fun _ h => h) (Keeps.of_below hbw fun k hk => Nat.lt_of_lt_of_le hk hB)
  obtain ⟨r1, r2, r3, r4⟩ := (by rw [hw0]; exact alloc5 w _ _ _ _ _ : w0.heap[w.heap.size + 1]? = some (.cells #[.string s] 9 (0, 0)) ∧ w0.heap[w.heap.size + 2]? = some (.cells #[.string n] 9 (0, 0)) ∧ w0.heap[w.heap.size + 3]? = some (.cells #[.string ow] 9 (0, 0)) ∧ w0.heap[w.heap.size + 4]? = some (.cells #[.slice none 0 0, .slice none 0 0] 26 (0, 0)))
  have c1 := box_at r1 0 rfl
  have c2 := box_at r2 0 rfl
  have c3 := box_at r3 0 rfl
  have HCH := Lib.hid (prog_changed_any B o _ _ 51 #[.pointer (some ⟨w.heap.size + 3, 0, none⟩), .pointer (some ⟨w.heap.size + 1, 0, none⟩), .pointer (some ⟨w.heap.size + 2, 0, none⟩)] (setOwnF o s n ow) (setOwnerF o s n ow) w0 hob (by omega) hsm (enters_of Try.func51 (by kernel_rfl) rfl)
    (fun W vs' vt' B1 h1 h2 hbx hx hbW _ => prog_setown1_any w0.heap.size B1 (w.heap.size + 3) (w.heap.size + 1) (w.heap.size + 2) o vs' vt' s n ow W hbx hx.objX h2 (by omega)
      ((hbW.cell (p := ⟨w.heap.size + 3, 0, none⟩) (by show w.heap.size + 3 < _; omega)).trans c3) ((hbW.cell (p := ⟨w.heap.size + 1, 0, none⟩) (by show w.heap.size + 1 < _; omega)).trans c1) ((hbW.cell (p := ⟨w.heap.size + 2, 0, none⟩) (by show w.heap.size + 2 < _; omega)).trans c2))
    (fun h => by
      unfold setOwnF at h ⊢
      split
      · rfl
      · split
        · rfl
        · rename_i h1 h2
          rw [if_neg h1, if_neg h2] at h
          exact absurd rfl h)
    (fun h => by unfold setOwnerF; rw [if_pos h])
    (fun h => by unfold setOwnerF setOwnF; rw [if_neg (by rw [h]; simp)]))
  have HR4 := Lib.hid r4; have HSZ := Lib.hid hsz; have HBW := Lib.hid hbw
  clear c1 c2 c3 r1 r2 r3 r4 hob hsz hbw ho
  subst hw0
  go_enter Try.func19, Try.ntmps19
  go_wp2_with (first
    | (go_at_call 50
       refine HCH.out.mono ?_
       rintro e w3 ⟨vs3, vt3, rfl, hob3, hb3⟩
       have hob4 := hob3
       obtain ⟨_, _, hv3, hss3, hts3⟩ := hob4
       simp only [List.cons.injEq, and_true] at hv3
       obtain ⟨rfl, rfl⟩ := hv3
       obtain ⟨a3, cap3, rfl, _, _⟩ := hss3.form
       obtain ⟨a4, cap4, rfl, _, _⟩ := hts3.form
       obtain ⟨n3, hn3⟩ : ∃ m, (setOwnerF o s n ow).1.schemas.length = m := ⟨_, rfl⟩
       obtain ⟨n4, hn4⟩ : ∃ m, (setOwnerF o s n ow).1.tables.length = m := ⟨_, rfl⟩
       rw [hn3, hn4] at hob3 ⊢
       have HG3 := Lib.hid ((hb3.block (w.heap.size + 4) (by rw [HSZ.out]; omega)).trans HR4.out)
       have HO3 : Hid ((#[.slice a3 n3 cap3, .slice a4 n4 cap4] : Array Value).all (·.oneCell') = true) := Lib.hid (by kernel_rfl)
       have HROW3 := Lib.hid (setRow_heap _ _ _ #[.slice a3 n3 cap3, .slice a4 n4 cap4] _ _ HG3.out)
       have HB3 := Lib.hid (hb3.mono (Nat.le_of_eq HSZ.out.symm)); have HOB3 := Lib.hid (obj_keep hob3 (fun k hk => hk.mono (Nat.le_of_eq HSZ.out.symm)) Keeps.refl)
       clear hb3 hob3 hss3 hts3 hn3 hn4)
    | (refine wpList_store_box rfl 26 _ _ rfl (w.heap.size + 4) 26 _ #[.slice a3 n3 cap3, .slice a4 n4 cap4] rfl rfl HG3.out HI.out rfl HO3.out ?_))
  refine bodyPost_ret (results_box_tmp rfl _ _ (w.heap.size + 4) _ _ (0, 0) _ rfl HROW3.out Try.underlying26 rfl HI.out) rfl ?_
  exact close2 (r := setOwnerF o s n ow) (HBW.out.trans (HB3.out.mono (by omega))) (by omega) (obj_keep HOB3.out (fun k hk => ⟨hk.mono (by omega), by have := hk.1; omega⟩) Keeps.refl)
end
end Go.Proofs.Yteaeccpmociphaa
