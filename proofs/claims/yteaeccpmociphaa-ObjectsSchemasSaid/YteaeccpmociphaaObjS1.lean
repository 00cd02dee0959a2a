/-
  Merged: ObjS1, ObjS2.
-/
import Derived.Test.YteaeccpmociphaaObjS
namespace Go.Proofs.Yteaeccpmociphaa
section
/-! Merged: ObjS1, ObjS4. -/

section
/-! The document's answer for layer 7, by contract: SetOwner. -/

open Go.RowKit Go.Sort

set_option maxRecDepth 100000 in
set_option maxHeartbeats 16000000 in
theorem ref_setowner_any (B : Nat) (o : Objs) (vs vt : Value) (s n ow : ByteArray) (w : World) (ho : objP w (· < B) [vs, vt] o) (hB : B ≤ w.heap.size) (hsm : smallO 3000 o) :
    Calls Try.prog 20 #[.agg #[vs, vt], .string s, .string n, .string ow] w (OutPost w (setOwnerF o s n ow)) := by
  have HI : Hid ((Try.prog.info? 26).map (·.size) = some 2) := Lib.hid (by kernel_rfl)
  have HON : Hid ((#[.slice none 0 0, .slice none 0 0] : Array Value).all (·.oneCell') = true) := Lib.hid (by kernel_rfl)
  have HOP := Lib.hid (opened ho hB)
  have HSM := Lib.hid hsm
  obtain ⟨_, _, hv, hss, hts⟩ := ho
  simp only [List.cons.injEq, and_true] at hv
  obtain ⟨rfl, rfl⟩ := hv
  obtain ⟨sa, sc, rfl, hsc1, hsc2⟩ := hss.form
  obtain ⟨ta, tc, rfl, htc1, htc2⟩ := hts.form
  obtain ⟨sn, hsn⟩ : ∃ sn, o.schemas.length = sn := ⟨_, rfl⟩
  obtain ⟨tn, htn⟩ : ∃ tn, o.tables.length = tn := ⟨_, rfl⟩
  rw [hsn] at HOP hss hsc1 ⊢
  rw [htn] at HOP hts htc1 ⊢
  unfold maxLen at hsc2 htc2
  have HSN := Lib.hid hsn; have HTN := Lib.hid htn
  have HSS := Lib.hid hss; have HTS := Lib.hid hts
  have hs3 : sn ≤ 3000 := by have := hsm.1; omega
  have ht3 : tn ≤ 3000 := by have := hsm.2.1; omega
  clear hss hts hsm hsn htn
  go_enter Try.func20, Try.ntmps20
  go_wp2_with fail
  generalize World.alloc (World.alloc w _) _ = w0 at *
  have HB0 := Lib.hid (Below.refl w0.heap.size w0)
  refine (ref_right_any B o _ _ w0 (HOP.out.at HB0.out).1 (HOP.out.at HB0.out).2.1).mono ?_
  rintro e w1 ⟨rfl, g1⟩
  have HB1 := Lib.hid (below_on HB0.out (Nat.le_refl _) (g1.below))
  have v0_1 := box_at (HOP.out.at HB1.out).2.2.1 0 rfl
  have v1_1 := box_at (HOP.out.at HB1.out).2.2.1 1 rfl
  cases hr : rightB o with
  | false =>
    have HF := Lib.hid (show setOwnerF o s n ow = (noO, 63) from by unfold setOwnerF; rw [if_pos hr])
    go_wp2_with fail
    refine (ref_no_any 63 _).mono ?_
    rintro e w9 ⟨rfl, b9⟩
    have hb9 := below_on HB1.out (Nat.le_refl _) b9
    have HG9 := Lib.hid (HOP.out.at hb9).2.2.2.1
    have HROW9 := Lib.hid (setRow_heap _ _ _ #[.slice none 0 0, .slice none 0 0] _ _ HG9.out)
    have HB9 := Lib.hid hb9
    clear b9 hb9
    go_wp2_with (refine wpList_store_box rfl 26 _ _ rfl (w.heap.size + 1) 26 _ #[.slice none 0 0, .slice none 0 0] rfl rfl HG9.out HI.out rfl HON.out ?_)
    refine bodyPost_ret (results_box_tmp rfl _ _ (w.heap.size + 1) _ _ (0, 0) _ rfl HROW9.out Try.underlying26 rfl HI.out) rfl ?_
    rw [HF.out]
    exact HOP.out.close HB9.out (r := (noO, 63)) (no_obj _ _)
  | true =>
    go_wp2_with fail
    refine (ref_name_any ow w1).mono ?_
    rintro e wq ⟨rfl, rfl⟩
    cases hn : nameB ow with
    | false =>
      have HF := Lib.hid (show setOwnerF o s n ow = (noO, 1) from by unfold setOwnerF; rw [if_neg (by rw [hr]; simp), if_pos hn])
      go_wp2_with fail
      refine (ref_no_any 1 _).mono ?_
      rintro e w9 ⟨rfl, b9⟩
      have hb9 := below_on HB1.out (Nat.le_refl _) b9
      have HG9 := Lib.hid (HOP.out.at hb9).2.2.2.1
      have HROW9 := Lib.hid (setRow_heap _ _ _ #[.slice none 0 0, .slice none 0 0] _ _ HG9.out)
      have HB9 := Lib.hid hb9
      clear b9 hb9
      go_wp2_with (refine wpList_store_box rfl 26 _ _ rfl (w.heap.size + 1) 26 _ #[.slice none 0 0, .slice none 0 0] rfl rfl HG9.out HI.out rfl HON.out ?_)
      refine bodyPost_ret (results_box_tmp rfl _ _ (w.heap.size + 1) _ _ (0, 0) _ rfl HROW9.out Try.underlying26 rfl HI.out) rfl ?_
      rw [HF.out]
      exact HOP.out.close HB9.out (r := (noO, 1)) (no_obj _ _)
    | true =>
      go_wp2_with fail
      refine (ref_table_any B _ _ o s n w1 (HOP.out.at HB1.out).1).mono ?_
      rintro e w2 ⟨rfl, g2⟩
      have HB2 := Lib.hid (below_on HB1.out (Nat.le_refl _) (g2.below))
      have v0_2 := box_at (HOP.out.at HB2.out).2.2.1 0 rfl
      have v1_2 := box_at (HOP.out.at HB2.out).2.2.1 1 rfl
      by_cases ht : tabI o.tables s n < 0
      · have ht' : tabI o.tables s n < 0 := ht
        have HF := Lib.hid (show setOwnerF o s n ow = (noO, 61) from by unfold setOwnerF; rw [if_neg (by rw [hr]; simp), if_neg (by rw [hn]; simp), if_pos ht])
        go_wp2_with fail
        refine (ref_no_any 61 _).mono ?_
        rintro e w9 ⟨rfl, b9⟩
        have hb9 := below_on HB2.out (Nat.le_refl _) b9
        have HG9 := Lib.hid (HOP.out.at hb9).2.2.2.1
        have HROW9 := Lib.hid (setRow_heap _ _ _ #[.slice none 0 0, .slice none 0 0] _ _ HG9.out)
        have HB9 := Lib.hid hb9
        clear b9 hb9
        go_wp2_with (refine wpList_store_box rfl 26 _ _ rfl (w.heap.size + 1) 26 _ #[.slice none 0 0, .slice none 0 0] rfl rfl HG9.out HI.out rfl HON.out ?_)
        refine bodyPost_ret (results_box_tmp rfl _ _ (w.heap.size + 1) _ _ (0, 0) _ rfl HROW9.out Try.underlying26 rfl HI.out) rfl ?_
        rw [HF.out]
        exact HOP.out.close HB9.out (r := (noO, 61)) (no_obj _ _)
      obtain ⟨k, hk, hke, hka⟩ := tab_at ht
      have HF := Lib.hid (show setOwnerF o s n ow = (putTab o k (o.tables[k].withOwner ow), 0) from by unfold setOwnerF; rw [if_neg (by rw [hr]; simp), if_neg (by rw [hn]; simp), if_neg ht, hke, hka]; rfl)
      rw [hke]
      have k0 : ¬ ((k : Int) < 0) := by omega
      go_wp2_with fail
      refine (ref_own_any B o _ _ w2 (HOP.out.at HB2.out).1 (HOP.out.at HB2.out).2.1 HSM.out).mono ?_
      rintro e wO ⟨vs', vt', rfl, hox, hbo⟩
      have hbO := below_on HB2.out (Nat.le_refl _) hbo
      have hWs := (HOP.out.at HB2.out).2.2.2.2.2
      have hWO := hbo.size
      have hW0 := HB2.out.size
      generalize w2.heap.size = b0 at *
      obtain ⟨va, vcap, rfl, _, _⟩ := hox.1.form
      obtain ⟨gt, cap, x, rfl, hcap1, hcap2, hgS, hq, hcl⟩ := hox.2.at tab_stays hk
      obtain ⟨vc, vr, rfl, hvc, hvr⟩ := hq
      have c2 := hcl 2 _ rfl
      have z2 := hgS.2.frozen (k * 5 + 2)
      have hgl := hgS.lt
      have hob : wO.heap.size = wO.heap.size := rfl
      have hset := objX.set hox (k := k) (j := 2) hk (by omega) (u := .string ow) (y := o.tables[k].withOwner ow) (fun x h => by obtain ⟨vc, vr, hx, h1, h2⟩ := h; exact ⟨vc, vr, by rw [hx]; rfl, h1, h2⟩)
      have hbs : Below w0.heap.size w0 (wO.setCell ⟨gt, k * 5 + 2, none⟩ (.string ow)) := below_put hbO (by have := hgS.1; have := HOP.out.size; simp; omega) _
      have hal := (Below.refl _ (wO.setCell ⟨gt, k * 5 + 2, none⟩ (.string ow))).alloc (Nat.le_refl _) (.cells #[.slice va o.schemas.length vcap, .slice (some ⟨gt, 0, none⟩) o.tables.length cap] 26)
      have HBE := Lib.hid (below_on hbs (Nat.le_refl _) hal)
      have HSET := Lib.hid (objX.below hset hal)
      have k1 : (k : Int) < (o.tables.length : Int) := by omega
      have HG := Lib.hid (HOP.out.at HBE.out).2.2.2.1
      have HOE : Hid ((#[.slice va o.schemas.length vcap, .slice (some ⟨gt, 0, none⟩) o.tables.length cap] : Array Value).all (·.oneCell') = true) := Lib.hid (by kernel_rfl)
      have HROW := Lib.hid (setRow_heap _ _ _ #[.slice va o.schemas.length vcap, .slice (some ⟨gt, 0, none⟩) o.tables.length cap] _ _ HG.out)
      have HB2' : w.heap.size < w.heap.size + 1 ∧ w.heap.size + 1 < b0 := by omega
      clear hox hbo hbO hset hbs hal hcl hvc hvr
      go_wp2_with (refine wpList_store_box rfl 26 _ _ rfl (w.heap.size + 1) 26 _ #[.slice va o.schemas.length vcap, .slice (some ⟨gt, 0, none⟩) o.tables.length cap] rfl rfl HG.out HI.out rfl HOE.out ?_)
      refine bodyPost_ret (results_box_tmp rfl _ _ (w.heap.size + 1) _ _ (0, 0) _ rfl HROW.out Try.underlying26 rfl HI.out) rfl ?_
      rw [HF.out]
      exact HOP.out.close HBE.out (r := (putTab o k (o.tables[k].withOwner ow), 0)) (objX.close HSET.out HB2')
end

section
/-! The document's answer for layer 7, by contract: Find. -/

open Go.RowKit Go.Sort

/-- What Find answers. -/
def FindPost (w : World) (r : Tab × Int) (e : Ending) (w' : World) : Prop := ∃ vc vr, e = .returned (.tuple #[.agg #[.string r.1.schema, .string r.1.name, .string r.1.owner, vc, vr], .int .i64 r.2]) ∧ tabP w' (Sf w.heap.size w') (tabV r.1 vc vr) r.1 ∧ Below w.heap.size w w'
theorem no_tab (w : World) (S : Nat → Prop) : tabP w S (tabV noT (.slice none 0 0) (.slice none 0 0)) noT :=
  ⟨_, _, rfl, ⟨none, 0, [], rfl, Nat.le_refl _, by unfold maxLen; omega, .inl rfl, rfl, fun i x y h => by simp at h⟩, ⟨none, 0, [], rfl, Nat.le_refl _, by unfold maxLen; omega, .inl rfl, rfl, fun i x y h => by simp at h⟩⟩
structure OpenedT (w : World) (B : Nat) (o : Objs) (vs vt : Value) (w0 : World) : Prop where
  box : w0.heap[w.heap.size]? = some (.cells #[vs, vt] 26 (0, 0))
  res : w0.heap[w.heap.size + 1]? = some (.cells #[.string ⟨#[]⟩, .string ⟨#[]⟩, .string ⟨#[]⟩, .slice none 0 0, .slice none 0 0] 35 (0, 0))
  below : Below w.heap.size w w0
  size : w.heap.size + 1 + 1 = w0.heap.size
  obj : objP w (· < B) [vs, vt] o
  base : B ≤ w.heap.size
theorem openedT {w : World} {B : Nat} {o : Objs} {vs vt : Value} (ho : objP w (· < B) [vs, vt] o) (hB : B ≤ w.heap.size) :
    OpenedT w B o vs vt ((w.alloc (.cells #[vs, vt] 26)).alloc (.cells #[.string ⟨#[]⟩, .string ⟨#[]⟩, .string ⟨#[]⟩, .slice none 0 0, .slice none 0 0] 35)) := by
  have e1 : (w.alloc (.cells #[vs, vt] 26)).heap.size = w.heap.size + 1 := by simp
  have r1 := heap_alloc_new (w.alloc (.cells #[vs, vt] 26)) (.cells #[.string ⟨#[]⟩, .string ⟨#[]⟩, .string ⟨#[]⟩, .slice none 0 0, .slice none 0 0] 35)
  rw [e1] at r1
  exact ⟨(Below.heap_alloc _ _ _ (by rw [e1]; omega)).trans (heap_alloc_new w _), r1, ((Below.refl _ w).alloc (Nat.le_refl _) _).alloc (by simp) _, by simp, ho, hB⟩
theorem OpenedT.at {w w0 W : World} {B : Nat} {o : Objs} {vs vt : Value} (h : OpenedT w B o vs vt w0) (hb : Below w0.heap.size w0 W) : objP W (· < B) [vs, vt] o ∧ B ≤ W.heap.size ∧ W.heap[w.heap.size]? = some (.cells #[vs, vt] 26 (0, 0)) ∧ W.heap[w.heap.size + 1]? = some (.cells #[.string ⟨#[]⟩, .string ⟨#[]⟩, .string ⟨#[]⟩, .slice none 0 0, .slice none 0 0] 35 (0, 0)) ∧ Below w.heap.size w W ∧ w.heap.size + 1 + 1 ≤ W.heap.size := by
  have hs := h.size
  have hbs := hb.size
  have hB := h.base
  have hbl : Below w.heap.size w W := h.below.trans (hb.mono (by omega))
  exact ⟨obj_keep h.obj (fun _ h => h) (Keeps.of_below hbl fun k hk => Nat.lt_of_lt_of_le hk hB), by omega, (hb.block _ (by omega)).trans h.box, (hb.block _ (by omega)).trans h.res, hbl, by omega⟩
theorem OpenedT.close {w w0 W : World} {B : Nat} {o : Objs} {vs vt : Value} (h : OpenedT w B o vs vt w0) (hb : Below w0.heap.size w0 W) {vc vr : Value} {r : Tab × Int} (hr : tabP W (fun k => Sf w.heap.size W k ∧ k ≠ w.heap.size + 1) (tabV r.1 vc vr) r.1) :
    FindPost w r (.returned (.tuple #[.agg #[.string r.1.schema, .string r.1.name, .string r.1.owner, vc, vr], .int .i64 r.2])) (W.setRow (w.heap.size + 1) #[.string r.1.schema, .string r.1.name, .string r.1.owner, vc, vr]) := by
  obtain ⟨_, _, _, h4, h5, h6⟩ := h.at hb
  have hkB : Keeps (fun j => j ≠ w.heap.size + 1) W (W.setRow (w.heap.size + 1) #[.string r.1.schema, .string r.1.name, .string r.1.owner, vc, vr]) := ⟨rfl, rfl, rfl, by simp, fun j _ hj => setRow_other _ _ _ _ hj⟩
  exact ⟨_, _, rfl, tab_keep hr (fun k hk => hk.1.keep hkB hk.2) (hkB.mono fun k hk => hk.2), h5.trans (hkB.below (by omega) fun j hj => by omega)⟩

set_option maxRecDepth 100000 in
set_option maxHeartbeats 16000000 in
theorem ref_find_any (B : Nat) (o : Objs) (vs vt : Value) (s n : ByteArray) (w : World) (ho : objP w (· < B) [vs, vt] o) (hB : B ≤ w.heap.size) (hsm : smallO 3000 o) :
    Calls Try.prog 17 #[.agg #[vs, vt], .string s, .string n] w (FindPost w (findF o s n)) := by
  have HI : Hid ((Try.prog.info? 35).map (·.size) = some 5) := Lib.hid (by kernel_rfl)
  have HON : Hid ((#[.string ⟨#[]⟩, .string ⟨#[]⟩, .string ⟨#[]⟩, .slice none 0 0, .slice none 0 0] : Array Value).all (·.oneCell') = true) := Lib.hid (by kernel_rfl)
  have HOP := Lib.hid (openedT ho hB)
  obtain ⟨_, _, hv, hss, hts⟩ := ho
  simp only [List.cons.injEq, and_true] at hv
  obtain ⟨rfl, rfl⟩ := hv
  obtain ⟨sa, sc, rfl, hsc1, hsc2⟩ := hss.form
  obtain ⟨ta, tc, rfl, htc1, htc2⟩ := hts.form
  obtain ⟨sn, hsn⟩ : ∃ sn, o.schemas.length = sn := ⟨_, rfl⟩
  obtain ⟨tn, htn⟩ : ∃ tn, o.tables.length = tn := ⟨_, rfl⟩
  rw [hsn] at HOP ⊢
  rw [htn] at HOP hts htc1 ⊢
  unfold maxLen at htc2
  have HTN := Lib.hid htn; have HTS := Lib.hid hts
  have HSM := Lib.hid hsm
  clear hss hts hsn htn hsm
  go_enter Try.func17, Try.ntmps17
  go_wp2_with fail
  generalize World.alloc (World.alloc w _) _ = w0 at *
  refine (ref_right_any B o _ _ w0 (HOP.out.at (Below.refl _ _)).1 (HOP.out.at (Below.refl _ _)).2.1).mono ?_
  rintro e w1 ⟨rfl, g1⟩
  have HB1 := Lib.hid g1.below
  have v0_1 := box_at (HOP.out.at HB1.out).2.2.1 0 rfl
  have v1_1 := box_at (HOP.out.at HB1.out).2.2.1 1 rfl
  clear g1
  cases hr : rightB o with
  | false =>
    have HF := Lib.hid (show findF o s n = (noT, 63) from by unfold findF; rw [if_pos hr])
    have HG9 := Lib.hid (HOP.out.at HB1.out).2.2.2.1
    have HROW9 := Lib.hid (setRow_heap _ _ _ #[.string ⟨#[]⟩, .string ⟨#[]⟩, .string ⟨#[]⟩, .slice none 0 0, .slice none 0 0] _ _ HG9.out)
    go_wp2_with (refine wpList_store_box rfl 35 _ _ rfl (w.heap.size + 1) 35 _ #[.string ⟨#[]⟩, .string ⟨#[]⟩, .string ⟨#[]⟩, .slice none 0 0, .slice none 0 0] rfl rfl HG9.out HI.out rfl HON.out ?_)
    refine bodyPost_ret (results_box_tmp rfl _ _ (w.heap.size + 1) _ _ (0, 0) _ rfl HROW9.out Try.underlying35 rfl HI.out) rfl ?_
    rw [HF.out]
    exact HOP.out.close HB1.out (r := (noT, 63)) (no_tab _ _)
  | true =>
    go_wp2_with fail
    refine (ref_table_any B _ _ o s n w1 (HOP.out.at HB1.out).1).mono ?_
    rintro e w2 ⟨rfl, g2⟩
    have HB2 := Lib.hid (below_on HB1.out (Nat.le_refl _) g2.below)
    have v0_2 := box_at (HOP.out.at HB2.out).2.2.1 0 rfl
    have v1_2 := box_at (HOP.out.at HB2.out).2.2.1 1 rfl
    clear g2
    by_cases ht : tabI o.tables s n < 0
    · have HF := Lib.hid (show findF o s n = (noT, 61) from by unfold findF; rw [if_neg (by rw [hr]; simp), if_pos ht])
      have HG9 := Lib.hid (HOP.out.at HB2.out).2.2.2.1
      have HROW9 := Lib.hid (setRow_heap _ _ _ #[.string ⟨#[]⟩, .string ⟨#[]⟩, .string ⟨#[]⟩, .slice none 0 0, .slice none 0 0] _ _ HG9.out)
      go_wp2_with (refine wpList_store_box rfl 35 _ _ rfl (w.heap.size + 1) 35 _ #[.string ⟨#[]⟩, .string ⟨#[]⟩, .string ⟨#[]⟩, .slice none 0 0, .slice none 0 0] rfl rfl HG9.out HI.out rfl HON.out ?_)
      refine bodyPost_ret (results_box_tmp rfl _ _ (w.heap.size + 1) _ _ (0, 0) _ rfl HROW9.out Try.underlying35 rfl HI.out) rfl ?_
      rw [HF.out]
      exact HOP.out.close HB2.out (r := (noT, 61)) (no_tab _ _)
    obtain ⟨k, hk, hke, hka⟩ := tab_at ht
    have HF := Lib.hid (show findF o s n = (o.tables[k], 0) from by unfold findF; rw [if_neg (by rw [hr]; simp), if_neg ht, hka])
    rw [hke]
    have k0 : ¬ ((k : Int) < 0) := by omega
    have k1 : (k : Int) < (tn : Int) := by have := HTN.out; omega
    have hsT := HSM.out.2.2 k hk
    obtain ⟨b, q, x, rfl, hbB, hxr, hxl⟩ := HTS.out.at hk
    have hbl : b < w.heap.size := Nat.lt_of_lt_of_le hbB HOP.out.base
    have hwl := (HOP.out.at HB2.out).2.2.2.2.1
    have hws := (HOP.out.at HB2.out).2.2.2.2.2
    generalize o.tables[k] = t at *
    obtain ⟨vc, vr, rfl, hvc, hvr⟩ := hxr
    have c0 : w2.cell? ⟨b, q + k * 5, none⟩ = _ := (hwl.cell (p := ⟨b, q + k * 5 + 0, none⟩) hbl).trans (hxl 0 _ rfl)
    have c1 := (hwl.cell (p := ⟨b, q + k * 5 + 1, none⟩) hbl).trans (hxl 1 _ rfl)
    have c2 := (hwl.cell (p := ⟨b, q + k * 5 + 2, none⟩) hbl).trans (hxl 2 _ rfl)
    have c3 := (hwl.cell (p := ⟨b, q + k * 5 + 3, none⟩) hbl).trans (hxl 3 _ rfl)
    have c4 := (hwl.cell (p := ⟨b, q + k * 5 + 4, none⟩) hbl).trans (hxl 4 _ rfl)
    have hkB : Keeps (· < B) w w2 := Keeps.of_below hwl fun j hj => Nat.lt_of_lt_of_le hj HOP.out.base
    have HCP := Lib.hid (ref_copy_any B t vc vr w2 (cols_keep hvc (fun _ h => h) hkB) (ruls_keep hvr (fun _ h => h) hkB) (HOP.out.at HB2.out).2.1 hsT)
    clear hxl hvc hvr hkB
    go_wp2_with fail
    refine HCP.out.mono ?_
    rintro e w4 ⟨vc', vr', rfl, hc', hr', hb4⟩
    have HB4 := Lib.hid (below_on HB2.out (Nat.le_refl _) hb4)
    have htp : tabP w4 (fun k => Sf w.heap.size w4 k ∧ k ≠ w.heap.size + 1) (tabV t vc' vr') t := ⟨vc', vr', rfl, cols_keep (hc'.lst col_stays) (fun k hk => ⟨hk.mono (by omega), by have := hk.1; omega⟩) Keeps.refl, ruls_keep (hr'.lst rul_stays) (fun k hk => ⟨hk.mono (by omega), by have := hk.1; omega⟩) Keeps.refl⟩
    have HTP := Lib.hid htp
    obtain ⟨_, _, rfl, _, _⟩ := hc'.form
    obtain ⟨_, _, rfl, _, _⟩ := hr'.form
    have HG9 := Lib.hid (HOP.out.at HB4.out).2.2.2.1
    generalize hcv : Value.slice _ t.cols.length _ = vcv at *
    generalize hrv : Value.slice _ t.rules.length _ = vrv at *
    have HO5 : Hid ((#[.string t.schema, .string t.name, .string t.owner, vcv, vrv] : Array Value).all (·.oneCell') = true) := Lib.hid (by subst hcv hrv; kernel_rfl)
    have HROW9 := Lib.hid (setRow_heap _ _ _ #[.string t.schema, .string t.name, .string t.owner, vcv, vrv] _ _ HG9.out)
    clear hc' hr' hb4 htp hcv hrv
    go_wp2_with (refine wpList_store_box rfl 35 _ _ rfl (w.heap.size + 1) 35 _ #[.string t.schema, .string t.name, .string t.owner, vcv, vrv] rfl rfl HG9.out HI.out rfl HO5.out ?_)
    refine bodyPost_ret (results_box_tmp rfl _ _ (w.heap.size + 1) _ _ (0, 0) _ rfl HROW9.out Try.underlying35 rfl HI.out) rfl ?_
    rw [HF.out]
    exact HOP.out.close HB4.out (r := (t, 0)) HTP.out
end
end

section
/-! Merged: ObjS2, ObjS3. -/

section
/-! The document's answer for layer 7, by contract: AddSchema. -/

open Go.RowKit Go.Sort

set_option maxRecDepth 100000 in
set_option maxHeartbeats 16000000 in
theorem ref_addschema_any (B : Nat) (o : Objs) (vs vt : Value) (n ow : ByteArray) (w : World) (ho : objP w (· < B) [vs, vt] o) (hB : B ≤ w.heap.size) (hsm : smallO 3000 o) :
    Calls Try.prog 24 #[.agg #[vs, vt], .string n, .string ow] w (OutPost w (addSchemaF o n ow)) := by
  have HI : Hid ((Try.prog.info? 26).map (·.size) = some 2) := Lib.hid (by kernel_rfl)
  have HON : Hid ((#[.slice none 0 0, .slice none 0 0] : Array Value).all (·.oneCell') = true) := Lib.hid (by kernel_rfl)
  have HOP := Lib.hid (opened ho hB)
  have HSM := Lib.hid hsm
  obtain ⟨_, _, hv, hss, hts⟩ := ho
  simp only [List.cons.injEq, and_true] at hv
  obtain ⟨rfl, rfl⟩ := hv
  obtain ⟨sa, sc, rfl, hsc1, hsc2⟩ := hss.form
  obtain ⟨ta, tc, rfl, htc1, htc2⟩ := hts.form
  obtain ⟨sn, hsn⟩ : ∃ sn, o.schemas.length = sn := ⟨_, rfl⟩
  obtain ⟨tn, htn⟩ : ∃ tn, o.tables.length = tn := ⟨_, rfl⟩
  rw [hsn] at HOP hss hsc1 ⊢
  rw [htn] at HOP hts htc1 ⊢
  unfold maxLen at hsc2 htc2
  have HSN := Lib.hid hsn; have HTN := Lib.hid htn
  have HSS := Lib.hid hss; have HTS := Lib.hid hts
  have hs3 : sn ≤ 3000 := by have := hsm.1; omega
  have ht3 : tn ≤ 3000 := by have := hsm.2.1; omega
  clear hss hts hsm hsn htn
  obtain ⟨is, isi, is0, is1, is2⟩ := info_parts schInfo
  go_enter Try.func24, Try.ntmps24
  go_wp2_with fail
  generalize World.alloc (World.alloc w _) _ = w0 at *
  have HB0 := Lib.hid (Below.refl w0.heap.size w0)
  refine (ref_right_any B o _ _ w0 (HOP.out.at HB0.out).1 (HOP.out.at HB0.out).2.1).mono ?_
  rintro e w1 ⟨rfl, g1⟩
  have HB1 := Lib.hid (below_on HB0.out (Nat.le_refl _) (g1.below))
  have v0_1 := box_at (HOP.out.at HB1.out).2.2.1 0 rfl
  have v1_1 := box_at (HOP.out.at HB1.out).2.2.1 1 rfl
  cases hr : rightB o with
  | false =>
    have HF := Lib.hid (show addSchemaF o n ow = (noO, 63) from by unfold addSchemaF; rw [if_pos hr])
    go_wp2_with fail
    refine (ref_no_any 63 _).mono ?_
    rintro e w9 ⟨rfl, b9⟩
    have hb9 := below_on HB1.out (Nat.le_refl _) b9
    have HG9 := Lib.hid (HOP.out.at hb9).2.2.2.1
    have HROW9 := Lib.hid (setRow_heap _ _ _ #[.slice none 0 0, .slice none 0 0] _ _ HG9.out)
    have HB9 := Lib.hid hb9
    clear b9 hb9
    go_wp2_with (refine wpList_store_box rfl 26 _ _ rfl (w.heap.size + 1) 26 _ #[.slice none 0 0, .slice none 0 0] rfl rfl HG9.out HI.out rfl HON.out ?_)
    refine bodyPost_ret (results_box_tmp rfl _ _ (w.heap.size + 1) _ _ (0, 0) _ rfl HROW9.out Try.underlying26 rfl HI.out) rfl ?_
    rw [HF.out]
    exact HOP.out.close HB9.out (r := (noO, 63)) (no_obj _ _)
  | true =>
    go_wp2_with fail
    refine (ref_name_any n w1).mono ?_
    rintro e wq ⟨rfl, rfl⟩
    cases hn : nameB n with
    | false =>
      have HF := Lib.hid (show addSchemaF o n ow = (noO, 1) from by unfold addSchemaF; rw [if_neg (by rw [hr]; simp), if_pos (.inl hn)])
      go_wp2_with fail
      refine (ref_no_any 1 _).mono ?_
      rintro e w9 ⟨rfl, b9⟩
      have hb9 := below_on HB1.out (Nat.le_refl _) b9
      have HG9 := Lib.hid (HOP.out.at hb9).2.2.2.1
      have HROW9 := Lib.hid (setRow_heap _ _ _ #[.slice none 0 0, .slice none 0 0] _ _ HG9.out)
      have HB9 := Lib.hid hb9
      clear b9 hb9
      go_wp2_with (refine wpList_store_box rfl 26 _ _ rfl (w.heap.size + 1) 26 _ #[.slice none 0 0, .slice none 0 0] rfl rfl HG9.out HI.out rfl HON.out ?_)
      refine bodyPost_ret (results_box_tmp rfl _ _ (w.heap.size + 1) _ _ (0, 0) _ rfl HROW9.out Try.underlying26 rfl HI.out) rfl ?_
      rw [HF.out]
      exact HOP.out.close HB9.out (r := (noO, 1)) (no_obj _ _)
    | true =>
      go_wp2_with fail
      refine (ref_name_any ow w1).mono ?_
      rintro e wq ⟨rfl, rfl⟩
      cases hw : nameB ow with
      | false =>
        have HF := Lib.hid (show addSchemaF o n ow = (noO, 1) from by unfold addSchemaF; rw [if_neg (by rw [hr]; simp), if_pos (.inr hw)])
        go_wp2_with fail
        refine (ref_no_any 1 _).mono ?_
        rintro e w9 ⟨rfl, b9⟩
        have hb9 := below_on HB1.out (Nat.le_refl _) b9
        have HG9 := Lib.hid (HOP.out.at hb9).2.2.2.1
        have HROW9 := Lib.hid (setRow_heap _ _ _ #[.slice none 0 0, .slice none 0 0] _ _ HG9.out)
        have HB9 := Lib.hid hb9
        clear b9 hb9
        go_wp2_with (refine wpList_store_box rfl 26 _ _ rfl (w.heap.size + 1) 26 _ #[.slice none 0 0, .slice none 0 0] rfl rfl HG9.out HI.out rfl HON.out ?_)
        refine bodyPost_ret (results_box_tmp rfl _ _ (w.heap.size + 1) _ _ (0, 0) _ rfl HROW9.out Try.underlying26 rfl HI.out) rfl ?_
        rw [HF.out]
        exact HOP.out.close HB9.out (r := (noO, 1)) (no_obj _ _)
      | true =>
        go_wp2_with fail
        refine (ref_schema_any B _ _ o n w1 (HOP.out.at HB1.out).1).mono ?_
        rintro e w2 ⟨rfl, g2⟩
        have HB2 := Lib.hid (below_on HB1.out (Nat.le_refl _) (g2.below))
        have v0_2 := box_at (HOP.out.at HB2.out).2.2.1 0 rfl
        have v1_2 := box_at (HOP.out.at HB2.out).2.2.1 1 rfl
        by_cases ht : 0 ≤ schI o.schemas n
        · skip
          have HF := Lib.hid (show addSchemaF o n ow = (noO, 60) from by unfold addSchemaF; rw [if_neg (by rw [hr]; simp), if_neg (by rw [hn, hw]; simp), if_pos ht])
          go_wp2_with fail
          refine (ref_no_any 60 _).mono ?_
          rintro e w9 ⟨rfl, b9⟩
          have hb9 := below_on HB2.out (Nat.le_refl _) b9
          have HG9 := Lib.hid (HOP.out.at hb9).2.2.2.1
          have HROW9 := Lib.hid (setRow_heap _ _ _ #[.slice none 0 0, .slice none 0 0] _ _ HG9.out)
          have HB9 := Lib.hid hb9
          clear b9 hb9
          go_wp2_with (refine wpList_store_box rfl 26 _ _ rfl (w.heap.size + 1) 26 _ #[.slice none 0 0, .slice none 0 0] rfl rfl HG9.out HI.out rfl HON.out ?_)
          refine bodyPost_ret (results_box_tmp rfl _ _ (w.heap.size + 1) _ _ (0, 0) _ rfl HROW9.out Try.underlying26 rfl HI.out) rfl ?_
          rw [HF.out]
          exact HOP.out.close HB9.out (r := (noO, 60)) (no_obj _ _)
        have hsl := HSN.out
        by_cases h8 : 8 ≤ sn
        · have h8i : (8 : Int) ≤ (sn : Int) := by omega
          have HF := Lib.hid (show addSchemaF o n ow = (noO, 2) from by unfold addSchemaF; rw [if_neg (by rw [hr]; simp), if_neg (by rw [hn, hw]; simp), if_neg ht, if_pos (by rw [hsl]; exact h8)])
          go_wp2_with fail
          refine (ref_no_any 2 _).mono ?_
          rintro e w9 ⟨rfl, b9⟩
          have hb9 := below_on HB2.out (Nat.le_refl _) b9
          have HG9 := Lib.hid (HOP.out.at hb9).2.2.2.1
          have HROW9 := Lib.hid (setRow_heap _ _ _ #[.slice none 0 0, .slice none 0 0] _ _ HG9.out)
          have HB9 := Lib.hid hb9
          clear b9 hb9
          go_wp2_with (refine wpList_store_box rfl 26 _ _ rfl (w.heap.size + 1) 26 _ #[.slice none 0 0, .slice none 0 0] rfl rfl HG9.out HI.out rfl HON.out ?_)
          refine bodyPost_ret (results_box_tmp rfl _ _ (w.heap.size + 1) _ _ (0, 0) _ rfl HROW9.out Try.underlying26 rfl HI.out) rfl ?_
          rw [HF.out]
          exact HOP.out.close HB9.out (r := (noO, 2)) (no_obj _ _)
        have h8i : ¬ (8 : Int) ≤ (sn : Int) := by omega
        have HF := Lib.hid (show addSchemaF o n ow = (⟨insBy ltS ⟨n, ow⟩ o.schemas, o.tables⟩, 0) from by unfold addSchemaF; rw [if_neg (by rw [hr]; simp), if_neg (by rw [hn, hw]; simp), if_neg ht, if_neg (by rw [hsl]; exact h8)])
        clear hsl
        go_wp2_with fail
        refine (ref_own_any B o _ _ w2 (HOP.out.at HB2.out).1 (HOP.out.at HB2.out).2.1 HSM.out).mono ?_
        rintro e wO ⟨vs', vt', rfl, hox, hbo⟩
        have hbO := below_on HB2.out (Nat.le_refl _) hbo
        have hWs := (HOP.out.at HB2.out).2.2.2.2.2
        have hWO := hbo.size
        have hW0 := HB2.out.size
        generalize w2.heap.size = b0 at *
        obtain ⟨va, vcap, rfl, _, _⟩ := hox.1.form
        obtain ⟨ua, ucap, rfl, _, _⟩ := hox.2.form
        have hal := (Below.refl _ wO).alloc (Nat.le_refl _) (.cells #[.slice va o.schemas.length vcap, .slice ua o.tables.length ucap] 26)
        have hmid := objX.mid hox rfl
        have HSL := Lib.hid (schs_on hmid.1 (Keeps.of_below hal (S := (· < wO.heap.size)) fun _ h => h) fun _ h => h)
        have HTL := Lib.hid (tabs_on hmid.2 (Keeps.of_below hal (S := (· < wO.heap.size)) fun _ h => h) fun _ h => h)
        have HBP := Lib.hid (below_on hbO (Nat.le_refl _) hal)
        have HBX := Lib.hid (heap_alloc_new wO (.cells #[.slice va o.schemas.length vcap, .slice ua o.tables.length ucap] 26))
        have HSP : Hid ((wO.alloc (.cells #[.slice va o.schemas.length vcap, .slice ua o.tables.length ucap] 26)).heap.size = wO.heap.size + 1) := Lib.hid (by simp)
        have HB2' : w.heap.size < w.heap.size + 1 ∧ w.heap.size + 1 < b0 := by omega
        clear hox hbo hbO hal hmid
        go_wp2_with fail
        generalize World.alloc wO _ = wP at *
        generalize hp2 : wO.heap.size = p2 at *
        have HP2 := Lib.hid hp2
        clear hp2
        have hpp : p2 < wP.heap.size := by have := HSP.out; omega
        go_loopw [9, 10, 11] (fun l f i wr => ∃ (k : Nat) (acc : List Sch) (fb : Bool) (l' : Value), l' = l ∧ k ≤ sn ∧ f = .bool fb ∧ i = .int .i64 k ∧ Hid (LaidB ltS ⟨n, ow⟩ o.schemas acc k fb ∧ OwnX schQ wr wP.heap.size 72 2 l' acc ∧ Below wP.heap.size wP wr)) (fun _ _ i _ => sn - (intOf i).toNat)
        case atStart => exact ⟨0, [], false, _, rfl, Nat.zero_le _, rfl, rfl, Lib.hid ⟨laidB_start, OwnX.nil _ _ _ _ _, Below.refl _ _⟩⟩
        case round =>
          obtain ⟨k, acc, fb, l', rfl, hk, rfl, rfl, hrel⟩ := hrel
          obtain ⟨hlaid, hx, hb⟩ := hrel.out
          clear hrel
          have hbW := below_on HBP.out (Nat.le_refl _) hb
          have hat := HOP.out.at hbW
          have v0r := box_at hat.2.2.1 0 rfl
          have hwl := hat.2.2.2.2.1
          have hal := laidB_len hlaid
          have hPr := hb.size
          have HX := Lib.hid hx; have HLD := Lib.hid hlaid; have HB := Lib.hid hb; have HBW := Lib.hid hbW
          obtain ⟨la, lcap, rfl, _, _⟩ := hx.form
          clear hat hx hlaid hb hbW
          by_cases hlt : k < sn
          · have lk : k < o.schemas.length := by rw [HSN.out]; exact hlt
            obtain ⟨b, q, x, rfl, hbB, hxr, hxl⟩ := HSS.out.at lk
            have hbl : b < w.heap.size := Nat.lt_of_lt_of_le hbB HOP.out.base
            have k0 : (0 : Int) ≤ (k : Int) := by omega
            have k1 : (k : Int) < (sn : Int) := by omega
            have HKN := Lib.hid (show k + 1 ≤ sn by omega)
            have HPASS := Lib.hid (fun (h : LaidB ltS ⟨n, ow⟩ o.schemas acc k false) => laidB_pass h lk)
            have HHERE := Lib.hid (fun (h : LaidB ltS ⟨n, ow⟩ o.schemas acc k false) => laidB_here h lk)
            have HMORE := Lib.hid (fun (h : LaidB ltS ⟨n, ow⟩ o.schemas acc k true) => laidB_more h lk)
            generalize o.schemas[k] = y at *
            simp only [schP] at hxr
            subst hxr
            have c0 : wr.cell? ⟨b, q + k * 2, none⟩ = _ := (hwl.cell (p := ⟨b, q + k * 2 + 0, none⟩) hbl).trans (hxl 0 _ rfl)
            have c1 := (hwl.cell (p := ⟨b, q + k * 2 + 1, none⟩) hbl).trans (hxl 1 _ rfl)
            clear hxl
            cases fb with
            | true =>
              obtain ⟨xs6, hown6, hnx6⟩ := OwnX.step HX.out sch_stays (X := [.string y.name, .string y.owner]) (y := y) rfl
              have HOW6 := Lib.hid (hown6 (.cells #[.string y.name, .string y.owner] 72))
              have HNX6 := Lib.hid hnx6
              have HNC6 := Lib.hid (cells_fresh wr [.string y.name, .string y.owner] 72)
              have HON6 : Hid (∀ u ∈ ([.string y.name, .string y.owner] : List Value), u.oneCell' = true) := Lib.hid (by intro u hu; simp only [List.mem_cons, List.mem_nil_iff, or_false] at hu; repeat (first | (rcases hu with rfl | hu; rfl) | (subst hu; rfl)))
              clear hown6 hnx6
              go_wp2_with (at_builtin; refine wpList_append_own_at _ rfl _ _ 23 rfl wP.heap.size 72 is _ 2 32 Try.underlying23 isi is0 is1 is2 rfl (by decide) (.slice la acc.length lcap) acc.length xs6 rfl HOW6.out ⟨_, 0, none⟩ 1 1 [.string y.name, .string y.owner] rfl rfl ?c1 ?c2 ?c3 ?c4 ?c5 ?_)
              case c1 => first | exact HNC6.out | (have h := HNC6.out; rw [size_box] at h; exact h)
              case c2 => exact HON6.out
              case c3 => unfold maxLen; omega
              case c4 => omega
              case c5 => simp; omega
              intro v6 w6 hown6 hg6 _ hat6
              obtain ⟨hx6, hk6⟩ := HNX6.out _ _ _ hown6 hg6 (by first | exact hat6 | simpa using hat6)
              clear hown6 hg6 hat6 HOW6 HNX6 HNC6 HON6
              have hbe := HX.out.stepBelow hk6 hPr
              have HN := Lib.hid (And.intro (HMORE.out HLD.out) (And.intro hx6 (HB.out.trans hbe)))
              clear hx6 hk6 hbe
              go_wp2_with fail
              go_roundw
              case rel => exact ⟨k + 1, _, _, _, rfl, HKN.out, rfl, by go_num, HN⟩
              case measure => have := HKN.out; simp [intOf]; omega
            | false =>
              cases hl : ltS ⟨n, ow⟩ y with
              | false =>
                have el : Op.bytesLess n.toList y.name.toList = false := hl
                obtain ⟨xs6, hown6, hnx6⟩ := OwnX.step HX.out sch_stays (X := [.string y.name, .string y.owner]) (y := y) rfl
                have HOW6 := Lib.hid (hown6 (.cells #[.string y.name, .string y.owner] 72))
                have HNX6 := Lib.hid hnx6
                have HNC6 := Lib.hid (cells_fresh wr [.string y.name, .string y.owner] 72)
                have HON6 : Hid (∀ u ∈ ([.string y.name, .string y.owner] : List Value), u.oneCell' = true) := Lib.hid (by intro u hu; simp only [List.mem_cons, List.mem_nil_iff, or_false] at hu; repeat (first | (rcases hu with rfl | hu; rfl) | (subst hu; rfl)))
                clear hown6 hnx6
                go_wp2_with (at_builtin; refine wpList_append_own_at _ rfl _ _ 23 rfl wP.heap.size 72 is _ 2 32 Try.underlying23 isi is0 is1 is2 rfl (by decide) (.slice la acc.length lcap) acc.length xs6 rfl HOW6.out ⟨_, 0, none⟩ 1 1 [.string y.name, .string y.owner] rfl rfl ?c1 ?c2 ?c3 ?c4 ?c5 ?_)
                case c1 => first | exact HNC6.out | (have h := HNC6.out; rw [size_box] at h; exact h)
                case c2 => exact HON6.out
                case c3 => unfold maxLen; omega
                case c4 => omega
                case c5 => simp; omega
                intro v6 w6 hown6 hg6 _ hat6
                obtain ⟨hx6, hk6⟩ := HNX6.out _ _ _ hown6 hg6 (by first | exact hat6 | simpa using hat6)
                clear hown6 hg6 hat6 HOW6 HNX6 HNC6 HON6
                have hbe := HX.out.stepBelow hk6 hPr
                have HN := Lib.hid (And.intro (HPASS.out HLD.out hl) (And.intro hx6 (HB.out.trans hbe)))
                clear hx6 hk6 hbe
                go_wp2_with fail
                go_roundw
                case rel => exact ⟨k + 1, _, _, _, rfl, HKN.out, rfl, by go_num, HN⟩
                case measure => have := HKN.out; simp [intOf]; omega
              | true =>
                have el : Op.bytesLess n.toList y.name.toList = true := hl
                obtain ⟨xs5, hown5, hnx5⟩ := OwnX.step HX.out sch_stays (X := [.string n, .string ow]) (y := ⟨n, ow⟩) rfl
                have HOW5 := Lib.hid (hown5 (.cells #[.string n, .string ow] 72))
                have HNX5 := Lib.hid hnx5
                have HNC5 := Lib.hid (cells_fresh wr [.string n, .string ow] 72)
                have HON5 : Hid (∀ u ∈ ([.string n, .string ow] : List Value), u.oneCell' = true) := Lib.hid (by intro u hu; simp only [List.mem_cons, List.mem_nil_iff, or_false] at hu; repeat (first | (rcases hu with rfl | hu; rfl) | (subst hu; rfl)))
                clear hown5 hnx5
                go_wp2_with (at_builtin; refine wpList_append_own_at _ rfl _ _ 23 rfl wP.heap.size 72 is _ 2 32 Try.underlying23 isi is0 is1 is2 rfl (by decide) (.slice la acc.length lcap) acc.length xs5 rfl HOW5.out ⟨_, 0, none⟩ 1 1 [.string n, .string ow] rfl rfl ?c1 ?c2 ?c3 ?c4 ?c5 ?_)
                case c1 => first | exact HNC5.out | (have h := HNC5.out; rw [size_box] at h; exact h)
                case c2 => exact HON5.out
                case c3 => unfold maxLen; omega
                case c4 => omega
                case c5 => simp; omega
                intro v5 w5 hown5 hg5 _ hat5
                obtain ⟨hx5, hk5⟩ := HNX5.out _ _ _ hown5 hg5 (by first | exact hat5 | simpa using hat5)
                clear hown5 hg5 hat5 HOW5 HNX5 HNC5 HON5
                have hbe5 := HX.out.stepBelow hk5 hPr
                have hP5 : wP.heap.size ≤ w5.heap.size := Nat.le_trans hPr hbe5.size
                have HX5 := Lib.hid hx5
                have v0s := hk5.cell v0r (fun (e : (Value.slice la acc.length lcap).ownBlock = some w.heap.size) => by have := (HX.out.block e).1; have := HBP.out.size; have := HOP.out.size; omega)
                have c0s := hk5.cell c0 (fun (e : (Value.slice la acc.length lcap).ownBlock = some b) => by have := (HX.out.block e).1; have := HBP.out.size; have := HOP.out.size; omega)
                have c1s := hk5.cell c1 (fun (e : (Value.slice la acc.length lcap).ownBlock = some b) => by have := (HX.out.block e).1; have := HBP.out.size; have := HOP.out.size; omega)
                have hal5 : (acc ++ [(⟨n, ow⟩ : Sch)]).length ≤ k + 2 := by simp; omega
                obtain ⟨la5, lcap5, rfl, _, _⟩ := hx5.form
                clear hx5
                generalize acc ++ [(⟨n, ow⟩ : Sch)] = acc5 at *
                obtain ⟨xs6, hown6, hnx6⟩ := OwnX.step HX5.out sch_stays (X := [.string y.name, .string y.owner]) (y := y) rfl
                have HOW6 := Lib.hid (hown6 (.cells #[.string y.name, .string y.owner] 72))
                have HNX6 := Lib.hid hnx6
                have HNC6 := Lib.hid (cells_fresh w5 [.string y.name, .string y.owner] 72)
                have HON6 : Hid (∀ u ∈ ([.string y.name, .string y.owner] : List Value), u.oneCell' = true) := Lib.hid (by intro u hu; simp only [List.mem_cons, List.mem_nil_iff, or_false] at hu; repeat (first | (rcases hu with rfl | hu; rfl) | (subst hu; rfl)))
                clear hown6 hnx6
                go_wp2_with (at_builtin; refine wpList_append_own_at _ rfl _ _ 23 rfl wP.heap.size 72 is _ 2 32 Try.underlying23 isi is0 is1 is2 rfl (by decide) (.slice la5 acc5.length lcap5) acc5.length xs6 rfl HOW6.out ⟨_, 0, none⟩ 1 1 [.string y.name, .string y.owner] rfl rfl ?c1 ?c2 ?c3 ?c4 ?c5 ?_)
                case c1 => first | exact HNC6.out | (have h := HNC6.out; rw [size_box] at h; exact h)
                case c2 => exact HON6.out
                case c3 => unfold maxLen; omega
                case c4 => omega
                case c5 => simp; omega
                intro v6 w6 hown6 hg6 _ hat6
                obtain ⟨hx6, hk6⟩ := HNX6.out _ _ _ hown6 hg6 (by first | exact hat6 | simpa using hat6)
                clear hown6 hg6 hat6 HOW6 HNX6 HNC6 HON6
                have hbe := hbe5.trans (HX5.out.stepBelow hk6 hP5)
                have HN := Lib.hid (And.intro (HHERE.out HLD.out hl) (And.intro hx6 (HB.out.trans hbe)))
                clear hx6 hk6 hbe
                go_wp2_with fail
                go_roundw
                case rel => exact ⟨k + 1, _, _, _, rfl, HKN.out, rfl, by go_num, HN⟩
                case measure => have := HKN.out; simp [intOf]; omega
          · obtain rfl : k = sn := by omega
            cases fb with
            | true =>
              have hae : acc = insBy ltS ⟨n, ow⟩ o.schemas := laidB_end (by have := HLD.out; rw [← HSN.out] at this; exact this)
              have HAE := Lib.hid hae
              have HXE := HX; have HBE0 := HB
              clear hae
              have hbWe := below_on HBP.out (Nat.le_refl _) HBE0.out
              have hate := HOP.out.at hbWe
              have hpe := (Below.block HBE0.out p2 hpp).trans HBX.out
              have e0 := box_at hpe 0 rfl
              have e1 := box_at hpe 1 rfl
              have ez := frozen_of_row _ p2 0 _ _ hpe
              have hkS : Keeps (· ≠ p2) wr (wr.setCell ⟨p2, 0, none⟩ (.slice la acc.length lcap)) := Keeps.refl.setCell (by simp) _
              have HG := Lib.hid (hkS.row hate.2.2.2.1 (by have := HOP.out.size; omega))
              have HBE := Lib.hid (below_put hbWe (p := ⟨p2, 0, none⟩) (by have := HOP.out.size; have := HP2.out; simp; omega) (.slice la acc.length lcap))
              have HOE : Hid ((#[(.slice la acc.length lcap), .slice ua o.tables.length ucap] : Array Value).all (·.oneCell') = true) := Lib.hid (by kernel_rfl)
              have HROW := Lib.hid (setRow_heap _ _ _ #[(.slice la acc.length lcap), .slice ua o.tables.length ucap] _ _ HG.out)
              have hfs := (HXE.out.move (fun h => h) hkS fun g hg e => by have := (HXE.out.block hg).1; omega).lst sch_stays
              have hft := tabs_on (tabs_on HTL.out (Keeps.of_below HBE0.out (S := (· < wP.heap.size)) fun _ h => h) fun k hk => by omega) hkS fun k hk => by omega
              have HFS := Lib.hid (schs_keep hfs (S' := fun k => Sf w.heap.size (wr.setCell ⟨p2, 0, none⟩ (.slice la acc.length lcap)) k ∧ k ≠ w.heap.size + 1) (fun k hk => ⟨hk.mono (by have := HP2.out; omega), by have := hk.1; omega⟩) Keeps.refl)
              have HFT := Lib.hid (tabs_keep hft (S' := fun k => Sf w.heap.size (wr.setCell ⟨p2, 0, none⟩ (.slice la acc.length lcap)) k ∧ k ≠ w.heap.size + 1) (fun k hk => ⟨hk.1.mono (by omega), by have := hk.1.1; omega⟩) Keeps.refl)
              clear hbWe hate hpe hkS hfs hft
              go_wp2_with (refine wpList_store_box rfl 26 _ _ rfl (w.heap.size + 1) 26 _ #[(.slice la acc.length lcap), .slice ua o.tables.length ucap] rfl rfl HG.out HI.out rfl HOE.out ?_)
              refine bodyPost_ret (results_box_tmp rfl _ _ (w.heap.size + 1) _ _ (0, 0) _ rfl HROW.out Try.underlying26 rfl HI.out) rfl ?_
              rw [HF.out]
              exact HOP.out.close HBE.out (r := (⟨insBy ltS ⟨n, ow⟩ o.schemas, o.tables⟩, 0)) ⟨_, _, rfl, HAE.out ▸ HFS.out, HFT.out⟩
            | false =>
              have hae : acc ++ [(⟨n, ow⟩ : Sch)] = insBy ltS ⟨n, ow⟩ o.schemas := laidB_last (by have := HLD.out; rw [← HSN.out] at this; exact this)
              have HAE := Lib.hid hae
              clear hae
              obtain ⟨xs5, hown5, hnx5⟩ := OwnX.step HX.out sch_stays (X := [.string n, .string ow]) (y := ⟨n, ow⟩) rfl
              have HOW5 := Lib.hid (hown5 (.cells #[.string n, .string ow] 72))
              have HNX5 := Lib.hid hnx5
              have HNC5 := Lib.hid (cells_fresh wr [.string n, .string ow] 72)
              have HON5 : Hid (∀ u ∈ ([.string n, .string ow] : List Value), u.oneCell' = true) := Lib.hid (by intro u hu; simp only [List.mem_cons, List.mem_nil_iff, or_false] at hu; repeat (first | (rcases hu with rfl | hu; rfl) | (subst hu; rfl)))
              clear hown5 hnx5
              go_wp2_with (at_builtin; refine wpList_append_own_at _ rfl _ _ 23 rfl wP.heap.size 72 is _ 2 32 Try.underlying23 isi is0 is1 is2 rfl (by decide) (.slice la acc.length lcap) acc.length xs5 rfl HOW5.out ⟨_, 0, none⟩ 1 1 [.string n, .string ow] rfl rfl ?c1 ?c2 ?c3 ?c4 ?c5 ?_)
              case c1 => first | exact HNC5.out | (have h := HNC5.out; rw [size_box] at h; exact h)
              case c2 => exact HON5.out
              case c3 => unfold maxLen; omega
              case c4 => omega
              case c5 => simp; omega
              intro v5 w5 hown5 hg5 _ hat5
              obtain ⟨hx5, hk5⟩ := HNX5.out _ _ _ hown5 hg5 (by first | exact hat5 | simpa using hat5)
              clear hown5 hg5 hat5 HOW5 HNX5 HNC5 HON5
              have HBE0 := Lib.hid (HB.out.trans (HX.out.stepBelow hk5 hPr))
              have HXE := Lib.hid hx5
              generalize acc ++ [(⟨n, ow⟩ : Sch)] = acc5 at *
              obtain ⟨la5, lcap5, rfl, _, _⟩ := hx5.form
              clear hx5 hk5
              have hbWe := below_on HBP.out (Nat.le_refl _) HBE0.out
              have hate := HOP.out.at hbWe
              have hpe := (Below.block HBE0.out p2 hpp).trans HBX.out
              have e0 := box_at hpe 0 rfl
              have e1 := box_at hpe 1 rfl
              have ez := frozen_of_row _ p2 0 _ _ hpe
              have hkS : Keeps (· ≠ p2) w5 (w5.setCell ⟨p2, 0, none⟩ (.slice la5 acc5.length lcap5)) := Keeps.refl.setCell (by simp) _
              have HG := Lib.hid (hkS.row hate.2.2.2.1 (by have := HOP.out.size; omega))
              have HBE := Lib.hid (below_put hbWe (p := ⟨p2, 0, none⟩) (by have := HOP.out.size; have := HP2.out; simp; omega) (.slice la5 acc5.length lcap5))
              have HOE : Hid ((#[(.slice la5 acc5.length lcap5), .slice ua o.tables.length ucap] : Array Value).all (·.oneCell') = true) := Lib.hid (by kernel_rfl)
              have HROW := Lib.hid (setRow_heap _ _ _ #[(.slice la5 acc5.length lcap5), .slice ua o.tables.length ucap] _ _ HG.out)
              have hfs := (HXE.out.move (fun h => h) hkS fun g hg e => by have := (HXE.out.block hg).1; omega).lst sch_stays
              have hft := tabs_on (tabs_on HTL.out (Keeps.of_below HBE0.out (S := (· < wP.heap.size)) fun _ h => h) fun k hk => by omega) hkS fun k hk => by omega
              have HFS := Lib.hid (schs_keep hfs (S' := fun k => Sf w.heap.size (w5.setCell ⟨p2, 0, none⟩ (.slice la5 acc5.length lcap5)) k ∧ k ≠ w.heap.size + 1) (fun k hk => ⟨hk.mono (by have := HP2.out; omega), by have := hk.1; omega⟩) Keeps.refl)
              have HFT := Lib.hid (tabs_keep hft (S' := fun k => Sf w.heap.size (w5.setCell ⟨p2, 0, none⟩ (.slice la5 acc5.length lcap5)) k ∧ k ≠ w.heap.size + 1) (fun k hk => ⟨hk.1.mono (by omega), by have := hk.1.1; omega⟩) Keeps.refl)
              clear hbWe hate hpe hkS hfs hft
              go_wp2_with (refine wpList_store_box rfl 26 _ _ rfl (w.heap.size + 1) 26 _ #[(.slice la5 acc5.length lcap5), .slice ua o.tables.length ucap] rfl rfl HG.out HI.out rfl HOE.out ?_)
              refine bodyPost_ret (results_box_tmp rfl _ _ (w.heap.size + 1) _ _ (0, 0) _ rfl HROW.out Try.underlying26 rfl HI.out) rfl ?_
              rw [HF.out]
              exact HOP.out.close HBE.out (r := (⟨insBy ltS ⟨n, ow⟩ o.schemas, o.tables⟩, 0)) ⟨_, _, rfl, HAE.out ▸ HFS.out, HFT.out⟩
end

section
/-! The document's answer for layer 7, by contract: DropSchema. -/

open Go.RowKit Go.Sort

set_option maxRecDepth 100000 in
set_option maxHeartbeats 16000000 in
theorem ref_dropschema_any (B : Nat) (o : Objs) (vs vt : Value) (n : ByteArray) (w : World) (ho : objP w (· < B) [vs, vt] o) (hB : B ≤ w.heap.size) (hsm : smallO 3000 o) :
    Calls Try.prog 26 #[.agg #[vs, vt], .string n] w (OutPost w (dropSchemaF o n)) := by
  have HI : Hid ((Try.prog.info? 26).map (·.size) = some 2) := Lib.hid (by kernel_rfl)
  have HON : Hid ((#[.slice none 0 0, .slice none 0 0] : Array Value).all (·.oneCell') = true) := Lib.hid (by kernel_rfl)
  have HOP := Lib.hid (opened ho hB)
  have HSM := Lib.hid hsm
  obtain ⟨_, _, hv, hss, hts⟩ := ho
  simp only [List.cons.injEq, and_true] at hv
  obtain ⟨rfl, rfl⟩ := hv
  obtain ⟨sa, sc, rfl, hsc1, hsc2⟩ := hss.form
  obtain ⟨ta, tc, rfl, htc1, htc2⟩ := hts.form
  obtain ⟨sn, hsn⟩ : ∃ sn, o.schemas.length = sn := ⟨_, rfl⟩
  obtain ⟨tn, htn⟩ : ∃ tn, o.tables.length = tn := ⟨_, rfl⟩
  rw [hsn] at HOP hss hsc1 ⊢
  rw [htn] at HOP hts htc1 ⊢
  unfold maxLen at hsc2 htc2
  have HSN := Lib.hid hsn; have HTN := Lib.hid htn
  have HSS := Lib.hid hss; have HTS := Lib.hid hts
  have hs3 : sn ≤ 3000 := by have := hsm.1; omega
  have ht3 : tn ≤ 3000 := by have := hsm.2.1; omega
  clear hss hts hsm hsn htn
  obtain ⟨is, isi, is0, is1, is2⟩ := info_parts schInfo
  go_enter Try.func26, Try.ntmps26
  go_wp2_with fail
  generalize World.alloc (World.alloc w _) _ = w0 at *
  have HB0 := Lib.hid (Below.refl w0.heap.size w0)
  refine (ref_right_any B o _ _ w0 (HOP.out.at HB0.out).1 (HOP.out.at HB0.out).2.1).mono ?_
  rintro e w1 ⟨rfl, g1⟩
  have HB1 := Lib.hid (below_on HB0.out (Nat.le_refl _) (g1.below))
  have v0_1 := box_at (HOP.out.at HB1.out).2.2.1 0 rfl
  have v1_1 := box_at (HOP.out.at HB1.out).2.2.1 1 rfl
  cases hr : rightB o with
  | false =>
    have HF := Lib.hid (show dropSchemaF o n = (noO, 63) from by unfold dropSchemaF; rw [if_pos hr])
    go_wp2_with fail
    refine (ref_no_any 63 _).mono ?_
    rintro e w9 ⟨rfl, b9⟩
    have hb9 := below_on HB1.out (Nat.le_refl _) b9
    have HG9 := Lib.hid (HOP.out.at hb9).2.2.2.1
    have HROW9 := Lib.hid (setRow_heap _ _ _ #[.slice none 0 0, .slice none 0 0] _ _ HG9.out)
    have HB9 := Lib.hid hb9
    clear b9 hb9
    go_wp2_with (refine wpList_store_box rfl 26 _ _ rfl (w.heap.size + 1) 26 _ #[.slice none 0 0, .slice none 0 0] rfl rfl HG9.out HI.out rfl HON.out ?_)
    refine bodyPost_ret (results_box_tmp rfl _ _ (w.heap.size + 1) _ _ (0, 0) _ rfl HROW9.out Try.underlying26 rfl HI.out) rfl ?_
    rw [HF.out]
    exact HOP.out.close HB9.out (r := (noO, 63)) (no_obj _ _)
  | true =>
    go_wp2_with fail
    refine (ref_schema_any B _ _ o n w1 (HOP.out.at HB1.out).1).mono ?_
    rintro e w2 ⟨rfl, g2⟩
    have HB2 := Lib.hid (below_on HB1.out (Nat.le_refl _) (g2.below))
    have v0_2 := box_at (HOP.out.at HB2.out).2.2.1 0 rfl
    have v1_2 := box_at (HOP.out.at HB2.out).2.2.1 1 rfl
    by_cases ht : schI o.schemas n < 0
    · skip
      have HF := Lib.hid (show dropSchemaF o n = (noO, 61) from by unfold dropSchemaF; rw [if_neg (by rw [hr]; simp), if_pos ht])
      go_wp2_with fail
      refine (ref_no_any 61 _).mono ?_
      rintro e w9 ⟨rfl, b9⟩
      have hb9 := below_on HB2.out (Nat.le_refl _) b9
      have HG9 := Lib.hid (HOP.out.at hb9).2.2.2.1
      have HROW9 := Lib.hid (setRow_heap _ _ _ #[.slice none 0 0, .slice none 0 0] _ _ HG9.out)
      have HB9 := Lib.hid hb9
      clear b9 hb9
      go_wp2_with (refine wpList_store_box rfl 26 _ _ rfl (w.heap.size + 1) 26 _ #[.slice none 0 0, .slice none 0 0] rfl rfl HG9.out HI.out rfl HON.out ?_)
      refine bodyPost_ret (results_box_tmp rfl _ _ (w.heap.size + 1) _ _ (0, 0) _ rfl HROW9.out Try.underlying26 rfl HI.out) rfl ?_
      rw [HF.out]
      exact HOP.out.close HB9.out (r := (noO, 61)) (no_obj _ _)
    go_wp2_with fail
    refine (ref_tables_any B _ _ o n w2 (HOP.out.at HB2.out).1).mono ?_
    rintro e w3 ⟨rfl, g3⟩
    have HB3 := Lib.hid (below_on HB2.out (Nat.le_refl _) (g3.below))
    have v0_3 := box_at (HOP.out.at HB3.out).2.2.1 0 rfl
    have v1_3 := box_at (HOP.out.at HB3.out).2.2.1 1 rfl
    by_cases h0 : 0 < tabN o.tables n
    · have h0i : (0 : Int) < (tabN o.tables n : Int) := by omega
      have HF := Lib.hid (show dropSchemaF o n = (noO, 62) from by unfold dropSchemaF; rw [if_neg (by rw [hr]; simp), if_neg (by omega), if_pos h0])
      go_wp2_with fail
      refine (ref_no_any 62 _).mono ?_
      rintro e w9 ⟨rfl, b9⟩
      have hb9 := below_on HB3.out (Nat.le_refl _) b9
      have HG9 := Lib.hid (HOP.out.at hb9).2.2.2.1
      have HROW9 := Lib.hid (setRow_heap _ _ _ #[.slice none 0 0, .slice none 0 0] _ _ HG9.out)
      have HB9 := Lib.hid hb9
      clear b9 hb9
      go_wp2_with (refine wpList_store_box rfl 26 _ _ rfl (w.heap.size + 1) 26 _ #[.slice none 0 0, .slice none 0 0] rfl rfl HG9.out HI.out rfl HON.out ?_)
      refine bodyPost_ret (results_box_tmp rfl _ _ (w.heap.size + 1) _ _ (0, 0) _ rfl HROW9.out Try.underlying26 rfl HI.out) rfl ?_
      rw [HF.out]
      exact HOP.out.close HB9.out (r := (noO, 62)) (no_obj _ _)
    have h0i : ¬ (0 : Int) < (tabN o.tables n : Int) := by omega
    have HF := Lib.hid (show dropSchemaF o n = (⟨o.schemas.filter fun s => !eqT s.name n, o.tables⟩, 0) from by unfold dropSchemaF; rw [if_neg (by rw [hr]; simp), if_neg (by omega), if_neg h0])
    go_wp2_with fail
    refine (ref_own_any B o _ _ w3 (HOP.out.at HB3.out).1 (HOP.out.at HB3.out).2.1 HSM.out).mono ?_
    rintro e wO ⟨vs', vt', rfl, hox, hbo⟩
    have hbO := below_on HB3.out (Nat.le_refl _) hbo
    have hWs := (HOP.out.at HB3.out).2.2.2.2.2
    have hWO := hbo.size
    have hW0 := HB3.out.size
    generalize w3.heap.size = b0 at *
    obtain ⟨va, vcap, rfl, _, _⟩ := hox.1.form
    obtain ⟨ua, ucap, rfl, _, _⟩ := hox.2.form
    have hal := (Below.refl _ wO).alloc (Nat.le_refl _) (.cells #[.slice va o.schemas.length vcap, .slice ua o.tables.length ucap] 26)
    have hmid := objX.mid hox rfl
    have HSL := Lib.hid (schs_on hmid.1 (Keeps.of_below hal (S := (· < wO.heap.size)) fun _ h => h) fun _ h => h)
    have HTL := Lib.hid (tabs_on hmid.2 (Keeps.of_below hal (S := (· < wO.heap.size)) fun _ h => h) fun _ h => h)
    have HBP := Lib.hid (below_on hbO (Nat.le_refl _) hal)
    have HBX := Lib.hid (heap_alloc_new wO (.cells #[.slice va o.schemas.length vcap, .slice ua o.tables.length ucap] 26))
    have HSP : Hid ((wO.alloc (.cells #[.slice va o.schemas.length vcap, .slice ua o.tables.length ucap] 26)).heap.size = wO.heap.size + 1) := Lib.hid (by simp)
    have HB2' : w.heap.size < w.heap.size + 1 ∧ w.heap.size + 1 < b0 := by omega
    clear hox hbo hbO hal hmid
    go_wp2_with fail
    generalize World.alloc wO _ = wP at *
    generalize hp2 : wO.heap.size = p2 at *
    have HP2 := Lib.hid hp2
    clear hp2
    have hpp : p2 < wP.heap.size := by have := HSP.out; omega
    go_loopw [7, 8] (fun l i wr => ∃ (k : Nat) (l' : Value), l' = l ∧ k ≤ sn ∧ i = .int .i64 k ∧ Hid (OwnX schQ wr wP.heap.size 72 2 l' ((o.schemas.take k).filter fun s => !eqT s.name n) ∧ Below wP.heap.size wP wr)) (fun _ i _ => sn - (intOf i).toNat)
    case atStart => exact ⟨0, _, rfl, Nat.zero_le _, rfl, Lib.hid ⟨by rw [List.take_zero]; exact OwnX.nil _ _ _ _ _, Below.refl _ _⟩⟩
    case round =>
      obtain ⟨k, l', rfl, hk, rfl, hrel⟩ := hrel
      obtain ⟨hx, hb⟩ := hrel.out
      clear hrel
      have hbW := below_on HBP.out (Nat.le_refl _) hb
      have hat := HOP.out.at hbW
      have v0r := box_at hat.2.2.1 0 rfl
      have hwl := hat.2.2.2.2.1
      have hal := filt_len (fun s : Sch => !eqT s.name n) o.schemas k
      have hPr := hb.size
      obtain ⟨la, lcap, rfl, _, _⟩ := hx.form
      have HX := Lib.hid hx; have HB := Lib.hid hb; have HBW := Lib.hid hbW
      clear hat hx hb hbW
      by_cases hlt : k < sn
      · have lk : k < o.schemas.length := by rw [HSN.out]; exact hlt
        obtain ⟨b, q, x, rfl, hbB, hxr, hxl⟩ := HSS.out.at lk
        have hbl : b < w.heap.size := Nat.lt_of_lt_of_le hbB HOP.out.base
        have k0 : (0 : Int) ≤ (k : Int) := by omega
        have k1 : (k : Int) < (sn : Int) := by omega
        have HKN := Lib.hid (show k + 1 ≤ sn by omega)
        have HIN := Lib.hid (fun h => filt_in (p := fun s : Sch => !eqT s.name n) lk h)
        have HOUT := Lib.hid (fun h => filt_out (p := fun s : Sch => !eqT s.name n) lk h)
        generalize o.schemas[k] = y at *
        generalize List.filter (fun s : Sch => !eqT s.name n) (o.schemas.take k) = acc at *
        simp only [schP] at hxr
        subst hxr
        have c0 : wr.cell? ⟨b, q + k * 2, none⟩ = _ := (hwl.cell (p := ⟨b, q + k * 2 + 0, none⟩) hbl).trans (hxl 0 _ rfl)
        have c1 := (hwl.cell (p := ⟨b, q + k * 2 + 1, none⟩) hbl).trans (hxl 1 _ rfl)
        clear hxl
        by_cases hq : y.name = n
        · have ho := HOUT.out (by simp [eqT_iff.2 hq])
          have hqe := eqT_iff.2 hq
          have HN := Lib.hid (show OwnX schQ wr wP.heap.size 72 2 (.slice la acc.length lcap) ((o.schemas.take (k + 1)).filter fun s => !eqT s.name n) ∧ Below wP.heap.size wP wr from ⟨by rw [ho]; exact HX.out, HB.out⟩)
          clear ho HIN HOUT hqe
          subst hq
          go_wp2_with fail
          go_roundw
          case rel => exact ⟨k + 1, _, rfl, HKN.out, by go_num, HN⟩
          case measure => have := HKN.out; simp [intOf]; omega
        · have hi2 := HIN.out (by simp [eqT_no.2 hq])
          have HI2 := Lib.hid hi2
          have hqb := tl_ne hq
          clear hi2 HIN HOUT
          obtain ⟨xs6, hown6, hnx6⟩ := OwnX.step HX.out sch_stays (X := [.string y.name, .string y.owner]) (y := y) rfl
          have HOW6 := Lib.hid (hown6 (.cells #[.string y.name, .string y.owner] 72))
          have HNX6 := Lib.hid hnx6
          have HNC6 := Lib.hid (cells_fresh wr [.string y.name, .string y.owner] 72)
          have HON6 : Hid (∀ u ∈ ([.string y.name, .string y.owner] : List Value), u.oneCell' = true) := Lib.hid (by intro u hu; simp only [List.mem_cons, List.mem_nil_iff, or_false] at hu; repeat (first | (rcases hu with rfl | hu; rfl) | (subst hu; rfl)))
          clear hown6 hnx6
          go_wp2_with (at_builtin; refine wpList_append_own_at _ rfl _ _ 23 rfl wP.heap.size 72 is _ 2 32 Try.underlying23 isi is0 is1 is2 rfl (by decide) (.slice la acc.length lcap) acc.length xs6 rfl HOW6.out ⟨_, 0, none⟩ 1 1 [.string y.name, .string y.owner] rfl rfl ?c1 ?c2 ?c3 ?c4 ?c5 ?_)
          case c1 => first | exact HNC6.out | (have h := HNC6.out; rw [size_box] at h; exact h)
          case c2 => exact HON6.out
          case c3 => unfold maxLen; omega
          case c4 => omega
          case c5 => simp; omega
          intro v6 w6 hown6 hg6 _ hat6
          obtain ⟨hx6, hk6⟩ := HNX6.out _ _ _ hown6 hg6 (by first | exact hat6 | simpa using hat6)
          clear hown6 hg6 hat6 HOW6 HNX6 HNC6 HON6
          have hbe := HX.out.stepBelow hk6 hPr
          rw [← HI2.out] at hx6
          have HN := Lib.hid (And.intro hx6 (HB.out.trans hbe))
          clear hx6 hk6 hbe
          go_wp2_with fail
          go_roundw
          case rel => exact ⟨k + 1, _, rfl, HKN.out, by go_num, HN⟩
          case measure => have := HKN.out; simp [intOf]; omega
      · obtain rfl : k = sn := by omega
        have hae : (o.schemas.take k).filter (fun s => !eqT s.name n) = o.schemas.filter (fun s => !eqT s.name n) := by rw [List.take_of_length_le (by rw [HSN.out]; exact Nat.le_refl _)]
        have HAE := Lib.hid hae
        have HXE := HX; have HBE0 := HB
        clear hae
        generalize List.filter (fun s : Sch => !eqT s.name n) (o.schemas.take k) = acc at *
        have hbWe := below_on HBP.out (Nat.le_refl _) HBE0.out
        have hate := HOP.out.at hbWe
        have hpe := (Below.block HBE0.out p2 hpp).trans HBX.out
        have e0 := box_at hpe 0 rfl
        have e1 := box_at hpe 1 rfl
        have ez := frozen_of_row _ p2 0 _ _ hpe
        have hkS : Keeps (· ≠ p2) wr (wr.setCell ⟨p2, 0, none⟩ (.slice la acc.length lcap)) := Keeps.refl.setCell (by simp) _
        have HG := Lib.hid (hkS.row hate.2.2.2.1 (by have := HOP.out.size; omega))
        have HBE := Lib.hid (below_put hbWe (p := ⟨p2, 0, none⟩) (by have := HOP.out.size; have := HP2.out; simp; omega) (.slice la acc.length lcap))
        have HOE : Hid ((#[(.slice la acc.length lcap), .slice ua o.tables.length ucap] : Array Value).all (·.oneCell') = true) := Lib.hid (by kernel_rfl)
        have HROW := Lib.hid (setRow_heap _ _ _ #[(.slice la acc.length lcap), .slice ua o.tables.length ucap] _ _ HG.out)
        have hfs := (HXE.out.move (fun h => h) hkS fun g hg e => by have := (HXE.out.block hg).1; omega).lst sch_stays
        have hft := tabs_on (tabs_on HTL.out (Keeps.of_below HBE0.out (S := (· < wP.heap.size)) fun _ h => h) fun k hk => by omega) hkS fun k hk => by omega
        have HFS := Lib.hid (schs_keep hfs (S' := fun k => Sf w.heap.size (wr.setCell ⟨p2, 0, none⟩ (.slice la acc.length lcap)) k ∧ k ≠ w.heap.size + 1) (fun k hk => ⟨hk.mono (by have := HP2.out; omega), by have := hk.1; omega⟩) Keeps.refl)
        have HFT := Lib.hid (tabs_keep hft (S' := fun k => Sf w.heap.size (wr.setCell ⟨p2, 0, none⟩ (.slice la acc.length lcap)) k ∧ k ≠ w.heap.size + 1) (fun k hk => ⟨hk.1.mono (by omega), by have := hk.1.1; omega⟩) Keeps.refl)
        clear hbWe hate hpe hkS hfs hft
        go_wp2_with (refine wpList_store_box rfl 26 _ _ rfl (w.heap.size + 1) 26 _ #[(.slice la acc.length lcap), .slice ua o.tables.length ucap] rfl rfl HG.out HI.out rfl HOE.out ?_)
        refine bodyPost_ret (results_box_tmp rfl _ _ (w.heap.size + 1) _ _ (0, 0) _ rfl HROW.out Try.underlying26 rfl HI.out) rfl ?_
        rw [HF.out]
        exact HOP.out.close HBE.out (r := (⟨o.schemas.filter fun s => !eqT s.name n, o.tables⟩, 0)) ⟨_, _, rfl, HAE.out ▸ HFS.out, HFT.out⟩
end
end
end Go.Proofs.Yteaeccpmociphaa
