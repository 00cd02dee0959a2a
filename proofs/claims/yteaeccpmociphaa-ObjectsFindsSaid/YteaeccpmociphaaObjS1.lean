/-
  Merged: ObjS1, ObjS4.
-/
import Derived.Test.YteaeccpmociphaaObjS
namespace Go.Proofs.Yteaeccpmociphaa
section
/-! The document's answer for layer 7, by contract: SetOwner. -/

open Go.RowKit Go.Sort

set_option maxRecDepth 100000 in
set_option maxHeartbeats 16000000 in
theorem ref_setowner_any (B : Nat) (o : Objs) (vs vt : Value) (s n ow : ByteArray) (w : World) (ho : objP w (· < B) [vs, vt] o) (hB : B ≤ w.heap.size) (hsm : smallO 3000 o) :
    Calls Try.prog 20 #[.agg #[vs, vt], .string s, .string n, .string ow] w (OutPost w (setOwnerF o s n ow)) := by
  have HI : Hid ((Try.prog.info? 26).map (·.size) = some 2) := Lib.hid (by kernel_rfl)
  have HON : Hid ((#[.slice none 0 0, .slice none 0 0] : Array Value).all (·.oneCell') = true) := Lib.hid (by kernel_rfl)
  have HOP := Lib.hid (opened ho hB)
  have HSM := Lib.hid hsm
  obtain ⟨_, _, hv, hss, hts⟩ := ho
  simp only [List.cons.injEq, and_true] at hv
  obtain ⟨rfl, rfl⟩ := hv
  obtain ⟨sa, sc, rfl, hsc1, hsc2⟩ := hss.form
  obtain ⟨ta, tc, rfl, htc1, htc2⟩ := hts.form
  obtain ⟨sn, hsn⟩ : ∃ sn, o.schemas.length = sn := ⟨_, rfl⟩
  obtain ⟨tn, htn⟩ : ∃ tn, o.tables.length = tn := ⟨_, rfl⟩
  rw [hsn] at HOP hss hsc1 ⊢
  rw [htn] at HOP hts htc1 ⊢
  unfold maxLen at hsc2 htc2
  have HSN := Lib.hid hsn; have HTN := Lib.hid htn
  have HSS := Lib.hid hss; have HTS := Lib.hid hts
  have hs3 : sn ≤ 3000 := by have := hsm.1; omega
  have ht3 : tn ≤ 3000 := by have := hsm.2.1; omega
  clear hss hts hsm hsn htn
  go_enter Try.func20, Try.ntmps20
  go_wp2_with fail
  generalize World.alloc (World.alloc w _) _ = w0 at *
  have HB0 := Lib.hid (Below.refl w0.heap.size w0)
  refine (ref_right_any B o _ _ w0 (HOP.out.at HB0.out).1 (HOP.out.at HB0.out).2.1).mono ?_
  rintro e w1 ⟨rfl, g1⟩
  have HB1 := Lib.hid (below_on HB0.out (Nat.le_refl _) (g1.below))
  have v0_1 := box_at (HOP.out.at HB1.out).2.2.1 0 rfl
  have v1_1 := box_at (HOP.out.at HB1.out).2.2.1 1 rfl
  cases hr : rightB o with
  | false =>
    have HF := Lib.hid (show setOwnerF o s n ow = (noO, 63) from by unfold setOwnerF; rw [if_pos hr])
    go_wp2_with fail
    refine (ref_no_any 63 _).mono ?_
    rintro e w9 ⟨rfl, b9⟩
    have hb9 := below_on HB1.out (Nat.le_refl _) b9
    have HG9 := Lib.hid (HOP.out.at hb9).2.2.2.1
    have HROW9 := Lib.hid (setRow_heap _ _ _ #[.slice none 0 0, .slice none 0 0] _ _ HG9.out)
    have HB9 := Lib.hid hb9
    clear b9 hb9
    go_wp2_with (refine wpList_store_box rfl 26 _ _ rfl (w.heap.size + 1) 26 _ #[.slice none 0 0, .slice none 0 0] rfl rfl HG9.out HI.out rfl HON.out ?_)
    refine bodyPost_ret (results_box_tmp rfl _ _ (w.heap.size + 1) _ _ (0, 0) _ rfl HROW9.out Try.underlying26 rfl HI.out) rfl ?_
    rw [HF.out]
    exact HOP.out.close HB9.out (r := (noO, 63)) (no_obj _ _)
  | true =>
    go_wp2_with fail
    refine (ref_name_any ow w1).mono ?_
    rintro e wq ⟨rfl, rfl⟩
    cases hn : nameB ow with
    | false =>
      have HF := Lib.hid (show setOwnerF o s n ow = (noO, 1) from by unfold setOwnerF; rw [if_neg (by rw [hr]; simp), if_pos hn])
      go_wp2_with fail
      refine (ref_no_any 1 _).mono ?_
      rintro e w9 ⟨rfl, b9⟩
      have hb9 := below_on HB1.out (Nat.le_refl _) b9
      have HG9 := Lib.hid (HOP.out.at hb9).2.2.2.1
      have HROW9 := Lib.hid (setRow_heap _ _ _ #[.slice none 0 0, .slice none 0 0] _ _ HG9.out)
      have HB9 := Lib.hid hb9
      clear b9 hb9
      go_wp2_with (refine wpList_store_box rfl 26 _ _ rfl (w.heap.size + 1) 26 _ #[.slice none 0 0, .slice none 0 0] rfl rfl HG9.out HI.out rfl HON.out ?_)
      refine bodyPost_ret (results_box_tmp rfl _ _ (w.heap.size + 1) _ _ (0, 0) _ rfl HROW9.out Try.underlying26 rfl HI.out) rfl ?_
      rw [HF.out]
      exact HOP.out.close HB9.out (r := (noO, 1)) (no_obj _ _)
    | true =>
      go_wp2_with fail
      refine (ref_table_any B _ _ o s n w1 (HOP.out.at HB1.out).1).mono ?_
      rintro e w2 ⟨rfl, g2⟩
      have HB2 := Lib.hid (below_on HB1.out (Nat.le_refl _) (g2.below))
      have v0_2 := box_at (HOP.out.at HB2.out).2.2.1 0 rfl
      have v1_2 := box_at (HOP.out.at HB2.out).2.2.1 1 rfl
      by_cases ht : tabI o.tables s n < 0
      · have ht' : tabI o.tables s n < 0 := ht
        have HF := Lib.hid (show setOwnerF o s n ow = (noO, 61) from by unfold setOwnerF; rw [if_neg (by rw [hr]; simp), if_neg (by rw [hn]; simp), if_pos ht])
        go_wp2_with fail
        refine (ref_no_any 61 _).mono ?_
        rintro e w9 ⟨rfl, b9⟩
        have hb9 := below_on HB2.out (Nat.le_refl _) b9
        have HG9 := Lib.hid (HOP.out.at hb9).2.2.2.1
        have HROW9 := Lib.hid (setRow_heap _ _ _ #[.slice none 0 0, .slice none 0 0] _ _ HG9.out)
        have HB9 := Lib.hid hb9
        clear b9 hb9
        go_wp2_with (refine wpList_store_box rfl 26 _ _ rfl (w.heap.size + 1) 26 _ #[.slice none 0 0, .slice none 0 0] rfl rfl HG9.out HI.out rfl HON.out ?_)
        refine bodyPost_ret (results_box_tmp rfl _ _ (w.heap.size + 1) _ _ (0, 0) _ rfl HROW9.out Try.underlying26 rfl HI.out) rfl ?_
        rw [HF.out]
        exact HOP.out.close HB9.out (r := (noO, 61)) (no_obj _ _)
      obtain ⟨k, hk, hke, hka⟩ := tab_at ht
      have HF := Lib.hid (show setOwnerF o s n ow = (putTab o k (o.tables[k].withOwner ow), 0) from by unfold setOwnerF; rw [if_neg (by rw [hr]; simp), if_neg (by rw [hn]; simp), if_neg ht, hke, hka]; rfl)
      rw [hke]
      have k0 : ¬ ((k : Int) < 0) := by omega
      go_wp2_with fail
      refine (ref_own_any B o _ _ w2 (HOP.out.at HB2.out).1 (HOP.out.at HB2.out).2.1 HSM.out).mono ?_
      rintro e wO ⟨vs', vt', rfl, hox, hbo⟩
      have hbO := below_on HB2.out (Nat.le_refl _) hbo
      have hWs := (HOP.out.at HB2.out).2.2.2.2.2
      have hWO := hbo.size
      have hW0 := HB2.out.size
      generalize w2.heap.size = b0 at *
      obtain ⟨va, vcap, rfl, _, _⟩ := hox.1.form
      obtain ⟨gt, cap, x, rfl, hcap1, hcap2, hgS, hq, hcl⟩ := hox.2.at tab_stays hk
      obtain ⟨vc, vr, rfl, hvc, hvr⟩ := hq
      have c2 := hcl 2 _ rfl
      have z2 := hgS.2.frozen (k * 5 + 2)
      have hgl := hgS.lt
      have hob : wO.heap.size = wO.heap.size := rfl
      have hset := objX.set hox (k := k) (j := 2) hk (by omega) (u := .string ow) (y := o.tables[k].withOwner ow) (fun x h => by obtain ⟨vc, vr, hx, h1, h2⟩ := h; exact ⟨vc, vr, by rw [hx]; rfl, h1, h2⟩)
      have hbs : Below w0.heap.size w0 (wO.setCell ⟨gt, k * 5 + 2, none⟩ (.string ow)) := below_put hbO (by have := hgS.1; have := HOP.out.size; simp; omega) _
      have hal := (Below.refl _ (wO.setCell ⟨gt, k * 5 + 2, none⟩ (.string ow))).alloc (Nat.le_refl _) (.cells #[.slice va o.schemas.length vcap, .slice (some ⟨gt, 0, none⟩) o.tables.length cap] 26)
      have HBE := Lib.hid (below_on hbs (Nat.le_refl _) hal)
      have HSET := Lib.hid (objX.below hset hal)
      have k1 : (k : Int) < (o.tables.length : Int) := by omega
      have HG := Lib.hid (HOP.out.at HBE.out).2.2.2.1
      have HOE : Hid ((#[.slice va o.schemas.length vcap, .slice (some ⟨gt, 0, none⟩) o.tables.length cap] : Array Value).all (·.oneCell') = true) := Lib.hid (by kernel_rfl)
      have HROW := Lib.hid (setRow_heap _ _ _ #[.slice va o.schemas.length vcap, .slice (some ⟨gt, 0, none⟩) o.tables.length cap] _ _ HG.out)
      have HB2' : w.heap.size < w.heap.size + 1 ∧ w.heap.size + 1 < b0 := by omega
      clear hox hbo hbO hset hbs hal hcl hvc hvr
      go_wp2_with (refine wpList_store_box rfl 26 _ _ rfl (w.heap.size + 1) 26 _ #[.slice va o.schemas.length vcap, .slice (some ⟨gt, 0, none⟩) o.tables.length cap] rfl rfl HG.out HI.out rfl HOE.out ?_)
      refine bodyPost_ret (results_box_tmp rfl _ _ (w.heap.size + 1) _ _ (0, 0) _ rfl HROW.out Try.underlying26 rfl HI.out) rfl ?_
      rw [HF.out]
      exact HOP.out.close HBE.out (r := (putTab o k (o.tables[k].withOwner ow), 0)) (objX.close HSET.out HB2')
end

section
/-! The document's answer for layer 7, by contract: Find. -/

open Go.RowKit Go.Sort

/-- What Find answers. -/
def FindPost (w : World) (r : Tab × Int) (e : Ending) (w' : World) : Prop := ∃ vc vr, e = .returned (.tuple #[.agg #[.string r.1.schema, .string r.1.name, .string r.1.owner, vc, vr], .int .i64 r.2]) ∧ tabP w' (Sf w.heap.size w') (tabV r.1 vc vr) r.1 ∧ Below w.heap.size w w'
theorem no_tab (w : World) (S : Nat → Prop) : tabP w S (tabV noT (.slice none 0 0) (.slice none 0 0)) noT :=
  ⟨_, _, rfl, ⟨none, 0, [], rfl, Nat.le_refl _, by unfold maxLen; omega, .inl rfl, rfl, fun i x y h => by simp at h⟩, ⟨none, 0, [], rfl, Nat.le_refl _, by unfold maxLen; omega, .inl rfl, rfl, fun i x y h => by simp at h⟩⟩
structure OpenedT (w : World) (B : Nat) (o : Objs) (vs vt : Value) (w0 : World) : Prop where
  box : w0.heap[w.heap.size]? = some (.cells #[vs, vt] 26 (0, 0))
  res : w0.heap[w.heap.size + 1]? = some (.cells #[.string ⟨#[]⟩, .string ⟨#[]⟩, .string ⟨#[]⟩, .slice none 0 0, .slice none 0 0] 35 (0, 0))
  below : Below w.heap.size w w0
  size : w.heap.size + 1 + 1 = w0.heap.size
  obj : objP w (· < B) [vs, vt] o
  base : B ≤ w.heap.size
theorem openedT {w : World} {B : Nat} {o : Objs} {vs vt : Value} (ho : objP w (· < B) [vs, vt] o) (hB : B ≤ w.heap.size) :
    OpenedT w B o vs vt ((w.alloc (.cells #[vs, vt] 26)).alloc (.cells #[.string ⟨#[]⟩, .string ⟨#[]⟩, .string ⟨#[]⟩, .slice none 0 0, .slice none 0 0] 35)) := by
  have e1 : (w.alloc (.cells #[vs, vt] 26)).heap.size = w.heap.size + 1 := by simp
  have r1 := heap_alloc_new (w.alloc (.cells #[vs, vt] 26)) (.cells #[.string ⟨#[]⟩, .string ⟨#[]⟩, .string ⟨#[]⟩, .slice none 0 0, .slice none 0 0] 35)
  rw [e1] at r1
  exact ⟨(Below.heap_alloc _ _ _ (by rw [e1]; omega)).trans (heap_alloc_new w _), r1, ((Below.refl _ w).alloc (Nat.le_refl _) _).alloc (by simp) _, by simp, ho, hB⟩
theorem OpenedT.at {w w0 W : World} {B : Nat} {o : Objs} {vs vt : Value} (h : OpenedT w B o vs vt w0) (hb : Below w0.heap.size w0 W) : objP W (· < B) [vs, vt] o ∧ B ≤ W.heap.size ∧ W.heap[w.heap.size]? = some (.cells #[vs, vt] 26 (0, 0)) ∧ W.heap[w.heap.size + 1]? = some (.cells #[.string ⟨#[]⟩, .string ⟨#[]⟩, .string ⟨#[]⟩, .slice none 0 0, .slice none 0 0] 35 (0, 0)) ∧ Below w.heap.size w W ∧ w.heap.size + 1 + 1 ≤ W.heap.size := by
  have hs := h.size
  have hbs := hb.size
  have hB := h.base
  have hbl : Below w.heap.size w W := h.below.trans (hb.mono (by omega))
  exact ⟨obj_keep h.obj (fun _ h => h) (Keeps.of_below hbl fun k hk => Nat.lt_of_lt_of_le hk hB), by omega, (hb.block _ (by omega)).trans h.box, (hb.block _ (by omega)).trans h.res, hbl, by omega⟩
theorem OpenedT.close {w w0 W : World} {B : Nat} {o : Objs} {vs vt : Value} (h : OpenedT w B o vs vt w0) (hb : Below w0.heap.size w0 W) {vc vr : Value} {r : Tab × Int} (hr : tabP W (fun k => Sf w.heap.size W k ∧ k ≠ w.heap.size + 1) (tabV r.1 vc vr) r.1) :
    FindPost w r (.returned (.tuple #[.agg #[.string r.1.schema, .string r.1.name, .string r.1.owner, vc, vr], .int .i64 r.2])) (W.setRow (w.heap.size + 1) #[.string r.1.schema, .string r.1.name, .string r.1.owner, vc, vr]) := by
  obtain ⟨_, _, _, h4, h5, h6⟩ := h.at hb
  have hkB : Keeps (fun j => j ≠ w.heap.size + 1) W (W.setRow (w.heap.size + 1) #[.string r.1.schema, .string r.1.name, .string r.1.owner, vc, vr]) := ⟨rfl, rfl, rfl, by simp, fun j _ hj => setRow_other _ _ _ _ hj⟩
  exact ⟨_, _, rfl, tab_keep hr (fun k hk => hk.1.keep hkB hk.2) (hkB.mono fun k hk => hk.2), h5.trans (hkB.below (by omega) fun j hj => by omega)⟩

set_option maxRecDepth 100000 in
set_option maxHeartbeats 16000000 in
theorem ref_find_any (B : Nat) (o : Objs) (vs vt : Value) (s n : ByteArray) (w : World) (ho : objP w (· < B) [vs, vt] o) (hB : B ≤ w.heap.size) (hsm : smallO 3000 o) :
    Calls Try.prog 17 #[.agg #[vs, vt], .string s, .string n] w (FindPost w (findF o s n)) := by
  have HI : Hid ((Try.prog.info? 35).map (·.size) = some 5) := Lib.hid (by kernel_rfl)
  have HON : Hid ((#[.string ⟨#[]⟩, .string ⟨#[]⟩, .string ⟨#[]⟩, .slice none 0 0, .slice none 0 0] : Array Value).all (·.oneCell') = true) := Lib.hid (by kernel_rfl)
  have HOP := Lib.hid (openedT ho hB)
  obtain ⟨_, _, hv, hss, hts⟩ := ho
  simp only [List.cons.injEq, and_true] at hv
  obtain ⟨rfl, rfl⟩ := hv
  obtain ⟨sa, sc, rfl, hsc1, hsc2⟩ := hss.form
  obtain ⟨ta, tc, rfl, htc1, htc2⟩ := hts.form
  obtain ⟨sn, hsn⟩ : ∃ sn, o.schemas.length = sn := ⟨_, rfl⟩
  obtain ⟨tn, htn⟩ : ∃ tn, o.tables.length = tn := ⟨_, rfl⟩
  rw [hsn] at HOP ⊢
  rw [htn] at HOP hts htc1 ⊢
  unfold maxLen at htc2
  have HTN := Lib.hid htn; have HTS := Lib.hid hts
  have HSM := Lib.hid hsm
  clear hss hts hsn htn hsm
  go_enter Try.func17, Try.ntmps17
  go_wp2_with fail
  generalize World.alloc (World.alloc w _) _ = w0 at *
  refine (ref_right_any B o _ _ w0 (HOP.out.at (Below.refl _ _)).1 (HOP.out.at (Below.refl _ _)).2.1).mono ?_
  rintro e w1 ⟨rfl, g1⟩
  have HB1 := Lib.hid g1.below
  have v0_1 := box_at (HOP.out.at HB1.out).2.2.1 0 rfl
  have v1_1 := box_at (HOP.out.at HB1.out).2.2.1 1 rfl
  clear g1
  cases hr : rightB o with
  | false =>
    have HF := Lib.hid (show findF o s n = (noT, 63) from by unfold findF; rw [if_pos hr])
    have HG9 := Lib.hid (HOP.out.at HB1.out).2.2.2.1
    have HROW9 := Lib.hid (setRow_heap _ _ _ #[.string ⟨#[]⟩, .string ⟨#[]⟩, .string ⟨#[]⟩, .slice none 0 0, .slice none 0 0] _ _ HG9.out)
    go_wp2_with (refine wpList_store_box rfl 35 _ _ rfl (w.heap.size + 1) 35 _ #[.string ⟨#[]⟩, .string ⟨#[]⟩, .string ⟨#[]⟩, .slice none 0 0, .slice none 0 0] rfl rfl HG9.out HI.out rfl HON.out ?_)
    refine bodyPost_ret (results_box_tmp rfl _ _ (w.heap.size + 1) _ _ (0, 0) _ rfl HROW9.out Try.underlying35 rfl HI.out) rfl ?_
    rw [HF.out]
    exact HOP.out.close HB1.out (r := (noT, 63)) (no_tab _ _)
  | true =>
    go_wp2_with fail
    refine (ref_table_any B _ _ o s n w1 (HOP.out.at HB1.out).1).mono ?_
    rintro e w2 ⟨rfl, g2⟩
    have HB2 := Lib.hid (below_on HB1.out (Nat.le_refl _) g2.below)
    have v0_2 := box_at (HOP.out.at HB2.out).2.2.1 0 rfl
    have v1_2 := box_at (HOP.out.at HB2.out).2.2.1 1 rfl
    clear g2
    by_cases ht : tabI o.tables s n < 0
    · have HF := Lib.hid (show findF o s n = (noT, 61) from by unfold findF; rw [if_neg (by rw [hr]; simp), if_pos ht])
      have HG9 := Lib.hid (HOP.out.at HB2.out).2.2.2.1
      have HROW9 := Lib.hid (setRow_heap _ _ _ #[.string ⟨#[]⟩, .string ⟨#[]⟩, .string ⟨#[]⟩, .slice none 0 0, .slice none 0 0] _ _ HG9.out)
      go_wp2_with (refine wpList_store_box rfl 35 _ _ rfl (w.heap.size + 1) 35 _ #[.string ⟨#[]⟩, .string ⟨#[]⟩, .string ⟨#[]⟩, .slice none 0 0, .slice none 0 0] rfl rfl HG9.out HI.out rfl HON.out ?_)
      refine bodyPost_ret (results_box_tmp rfl _ _ (w.heap.size + 1) _ _ (0, 0) _ rfl HROW9.out Try.underlying35 rfl HI.out) rfl ?_
      rw [HF.out]
      exact HOP.out.close HB2.out (r := (noT, 61)) (no_tab _ _)
    obtain ⟨k, hk, hke, hka⟩ := tab_at ht
    have HF := Lib.hid (show findF o s n = (o.tables[k], 0) from by unfold findF; rw [if_neg (by rw [hr]; simp), if_neg ht, hka])
    rw [hke]
    have k0 : ¬ ((k : Int) < 0) := by omega
    have k1 : (k : Int) < (tn : Int) := by have := HTN.out; omega
    have hsT := HSM.out.2.2 k hk
    obtain ⟨b, q, x, rfl, hbB, hxr, hxl⟩ := HTS.out.at hk
    have hbl : b < w.heap.size := Nat.lt_of_lt_of_le hbB HOP.out.base
    have hwl := (HOP.out.at HB2.out).2.2.2.2.1
    have hws := (HOP.out.at HB2.out).2.2.2.2.2
    generalize o.tables[k] = t at *
    obtain ⟨vc, vr, rfl, hvc, hvr⟩ := hxr
    have c0 : w2.cell? ⟨b, q + k * 5, none⟩ = _ := (hwl.cell (p := ⟨b, q + k * 5 + 0, none⟩) hbl).trans (hxl 0 _ rfl)
    have c1 := (hwl.cell (p := ⟨b, q + k * 5 + 1, none⟩) hbl).trans (hxl 1 _ rfl)
    have c2 := (hwl.cell (p := ⟨b, q + k * 5 + 2, none⟩) hbl).trans (hxl 2 _ rfl)
    have c3 := (hwl.cell (p := ⟨b, q + k * 5 + 3, none⟩) hbl).trans (hxl 3 _ rfl)
    have c4 := (hwl.cell (p := ⟨b, q + k * 5 + 4, none⟩) hbl).trans (hxl 4 _ rfl)
    have hkB : Keeps (· < B) w w2 := Keeps.of_below hwl fun j hj => Nat.lt_of_lt_of_le hj HOP.out.base
    have HCP := Lib.hid (ref_copy_any B t vc vr w2 (cols_keep hvc (fun _ h => h) hkB) (ruls_keep hvr (fun _ h => h) hkB) (HOP.out.at HB2.out).2.1 hsT)
    clear hxl hvc hvr hkB
    go_wp2_with fail
    refine HCP.out.mono ?_
    rintro e w4 ⟨vc', vr', rfl, hc', hr', hb4⟩
    have HB4 := Lib.hid (below_on HB2.out (Nat.le_refl _) hb4)
    have htp : tabP w4 (fun k => Sf w.heap.size w4 k ∧ k ≠ w.heap.size + 1) (tabV t vc' vr') t := ⟨vc', vr', rfl, cols_keep (hc'.lst col_stays) (fun k hk => ⟨hk.mono (by omega), by have := hk.1; omega⟩) Keeps.refl, ruls_keep (hr'.lst rul_stays) (fun k hk => ⟨hk.mono (by omega), by have := hk.1; omega⟩) Keeps.refl⟩
    have HTP := Lib.hid htp
    obtain ⟨_, _, rfl, _, _⟩ := hc'.form
    obtain ⟨_, _, rfl, _, _⟩ := hr'.form
    have HG9 := Lib.hid (HOP.out.at HB4.out).2.2.2.1
    generalize hcv : Value.slice _ t.cols.length _ = vcv at *
    generalize hrv : Value.slice _ t.rules.length _ = vrv at *
    have HO5 : Hid ((#[.string t.schema, .string t.name, .string t.owner, vcv, vrv] : Array Value).all (·.oneCell') = true) := Lib.hid (by subst hcv hrv; kernel_rfl)
    have HROW9 := Lib.hid (setRow_heap _ _ _ #[.string t.schema, .string t.name, .string t.owner, vcv, vrv] _ _ HG9.out)
    clear hc' hr' hb4 htp hcv hrv
    go_wp2_with (refine wpList_store_box rfl 35 _ _ rfl (w.heap.size + 1) 35 _ #[.string t.schema, .string t.name, .string t.owner, vcv, vrv] rfl rfl HG9.out HI.out rfl HO5.out ?_)
    refine bodyPost_ret (results_box_tmp rfl _ _ (w.heap.size + 1) _ _ (0, 0) _ rfl HROW9.out Try.underlying35 rfl HI.out) rfl ?_
    rw [HF.out]
    exact HOP.out.close HB4.out (r := (t, 0)) HTP.out
end
end Go.Proofs.Yteaeccpmociphaa
