/-
  Layer 7, the program, by contract: checkKey.
-/
import Derived.Test.YtkghkioghkapcaaObpI
import Derived.Test.YtkghkioghkapcaaObjL
import Derived.Deep.RegionHeld3
namespace Go.Proofs.Ytkghkioghkapcaa
open Go.RowKit Go.Sort Go.Shelf

/-- What the program answers of a foreign rule: its key is there, is not, or does not go with it. -/
def ckE (ts : List Tab) (l : List Col) (r : Rul) : Int :=
  if tabI ts r.schema r.table < 0 then 61 else
  match ts[(tabI ts r.schema r.table).toNat]? with
  | none => 61
  | some t =>
    if rulI t.rules r.key < 0 then 61 else
    match t.rules[(rulI t.rules r.key).toNat]? with
    | none => 61
    | some k => if k.kind ≠ 2 then 61 else if eqL (kindsL l r.cols) (kindsL t.cols k.cols) = true then 0 else 63
def CkS (w4 W : World) : Prop := Below w4.heap.size w4 W
theorem CkS.refl (w : World) : CkS w w := Below.refl _ _
theorem CkS.drew {w4 W : World} (h : CkS w4 W) : CkS w4 W.drew := h.trans ⟨rfl, rfl, rfl, Nat.le_refl _, fun _ _ => rfl⟩
theorem CkS.next {w4 W W' : World} (h : CkS w4 W) (hb : Below W.heap.size W W') : CkS w4 W' := h.trans (hb.mono h.size)
theorem boxes3p (w : World) (a b c : Obj) : let W := (((w.alloc a).alloc b).alloc c)
    Below w.heap.size w W ∧ W.heap[w.heap.size]? = some a ∧ W.heap[w.heap.size + 1]? = some b ∧ W.heap[w.heap.size + 1 + 1]? = some c ∧ W.heap.size = w.heap.size + 1 + 1 + 1 := by
  obtain ⟨h1, h2, h3, h4, h5, h6⟩ := boxes4p w a b c c
  have hz : (((w.alloc a).alloc b).alloc c).heap.size = w.heap.size + 1 + 1 + 1 := by simp
  have hk : ∀ k, k < w.heap.size + 1 + 1 + 1 → ((((w.alloc a).alloc b).alloc c).alloc c).heap[k]? = (((w.alloc a).alloc b).alloc c).heap[k]? := fun k hk => Below.heap_alloc _ _ _ (by rw [hz]; exact hk)
  refine ⟨(((Below.refl _ w).alloc (Nat.le_refl _) _).alloc (by simp) _).alloc (by first | (simp; done) | (simp; omega)) _, ?_, ?_, ?_, hz⟩
  · rw [← hk _ (by omega)]; exact h2
  · rw [← hk _ (by omega)]; exact h3
  · rw [← hk _ (by omega)]; exact h4

set_option maxRecDepth 100000 in
set_option maxHeartbeats 16000000 in
theorem prog_key_any (B : Nat) (o : Objs) (t : Tab) (r : Rul) (vs vt vc vr v : Value) (w : World) (ho : objP w (· < B) [vs, vt] o) (hc : Lst w (· < B) colP 3 vc t.cols) (hvr : Lst w (· < B) (rulP w (· < B)) 8 vr t.rules) (hr : Lst w (· < B) strP 1 v r.cols) (hB : B ≤ w.heap.size) (hsm : smallO 3000 o) (hr3 : r.cols.length ≤ 3000) :
    Calls Try.prog 98 #[.agg #[vs, vt], .agg #[.string t.schema, .string t.name, .string t.owner, vc, vr], .agg #[.string r.name, .int .i64 r.kind, v, .int .i64 r.low, .int .i64 r.high, .string r.schema, .string r.table, .string r.key]] w
      fun e w' => e = .returned (.int .i64 (ckE o.tables t.cols r)) ∧ Below w.heap.size w w' := by
  have HO := Lib.hid ho
  obtain ⟨_, _, hv, hss, hts⟩ := ho
  simp only [List.cons.injEq, and_true] at hv
  obtain ⟨rfl, rfl⟩ := hv
  obtain ⟨ta, tc, rfl, htc, htm⟩ := hts.form
  obtain ⟨ca, cc, rfl, hcc, hcm⟩ := hc.form
  obtain ⟨ra, rc, rfl, hrc, hrm⟩ := hr.form
  obtain ⟨sa, sc, rfl, hsc, hsm2⟩ := hss.form
  obtain ⟨va, vcp, rfl, _, _⟩ := hvr.form
  unfold maxLen at htm hcm hrm
  have H3 := Lib.hid (boxes3p w (.cells #[.slice sa o.schemas.length sc, .slice ta o.tables.length tc] 26) (.cells #[.string t.schema, .string t.name, .string t.owner, .slice ca t.cols.length cc, .slice va t.rules.length vcp] 35) (.cells #[.string r.name, .int .i64 r.kind, .slice ra r.cols.length rc, .int .i64 r.low, .int .i64 r.high, .string r.schema, .string r.table, .string r.key] 56))
  have HTS := Lib.hid hts; have HC := Lib.hid hc; have HR := Lib.hid hr
  obtain ⟨cn, hcn⟩ : ∃ n, t.cols.length = n := ⟨_, rfl⟩
  obtain ⟨rn, hrn⟩ : ∃ n, r.cols.length = n := ⟨_, rfl⟩
  obtain ⟨tn, htn⟩ : ∃ n, o.tables.length = n := ⟨_, rfl⟩
  have HTN := Lib.hid htn
  have HCE := Lib.hid (show ckE o.tables t.cols r = ckE o.tables t.cols r from rfl)
  have HSM := Lib.hid hsm
  rw [hcn] at hcc HC H3 ⊢
  rw [hrn] at hrc HR H3 hr3 ⊢
  rw [htn] at htc HTS H3 HO ⊢
  clear hss hts hc hvr hr hsm hcn hrn htn hsc hsm2
  go_enter Try.func98, Try.ntmps98
  go_wp2_with fail
  obtain ⟨hb0, q0, q1, q2, hz⟩ := H3.out
  clear H3
  generalize World.alloc (World.alloc (World.alloc w _) _) _ = w1 at *
  have hkw : Keeps (· < B) w w1 := Keeps.of_below hb0 fun j hj => Nat.lt_of_lt_of_le hj hB
  have HPL := Lib.hid (prog_place_any B o _ _ r.schema r.table w1 (obj_keep HO.out (fun _ h => h) hkw) (Nat.le_trans hB hkw.size))
  have HB0 := Lib.hid hb0
  have HQ0 := Lib.hid q0; have HQ1 := Lib.hid q1; have HQ2 := Lib.hid q2
  have HZ := Lib.hid hz
  clear hb0 q0 q1 q2 hz hkw
  refine HPL.out.mono ?_
  rintro e w2 ⟨rfl, hb2⟩
  have HB2 := Lib.hid (HB0.out.trans (hb2.mono HB0.out.size))
  have hz2 := hb2.size
  have HR0 := Lib.hid ((hb2.block _ (lt_of_block HQ0.out)).trans HQ0.out)
  have HR1 := Lib.hid ((hb2.block _ (lt_of_block HQ1.out)).trans HQ1.out)
  have HR2 := Lib.hid ((hb2.block _ (lt_of_block HQ2.out)).trans HQ2.out)
  have hti := idxI_ge (fun x : Tab => eqT x.schema r.schema && eqT x.name r.table) o.tables
  have htl := idxI_lt (fun x : Tab => eqT x.schema r.schema && eqT x.name r.table) o.tables
  have hti' : -1 ≤ tabI o.tables r.schema r.table := hti
  have htl' : tabI o.tables r.schema r.table < (tn : Int) := by rw [← HTN.out]; exact htl
  clear hti htl hb2 HPL
  by_cases hq : tabI o.tables r.schema r.table < 0
  · have HF := Lib.hid (show ckE o.tables t.cols r = 61 by unfold ckE; rw [if_pos hq])
    have e1 : tabI o.tables r.schema r.table = -1 := by omega
    rw [e1]
    clear hq e1 hti' htl'
    go_wp2_with fail
    go_ret
    exact ⟨by rw [HF.out]; rfl, HB2.out⟩
  · obtain ⟨q, hqe⟩ : ∃ q : Nat, tabI o.tables r.schema r.table = q := ⟨(tabI o.tables r.schema r.table).toNat, by omega⟩
    have hqn : q < o.tables.length := by have := HTN.out; omega
    have e2 : ((q : Int) == -1) = false := by rw [beq_eq_false_iff_ne]; omega
    have k0 : (0 : Int) ≤ (q : Int) := by omega
    have k1 : (q : Int) < (tn : Int) := by omega
    obtain ⟨b, of, x, rfl, hbB, ⟨nvc, nvr, rfl, hnc, hnr⟩, hxl⟩ := HTS.out.at hqn
    have hck : ckE o.tables t.cols r = (if rulI o.tables[q].rules r.key < 0 then 61 else
        match o.tables[q].rules[(rulI o.tables[q].rules r.key).toNat]? with
        | none => 61
        | some k => if k.kind ≠ 2 then 61 else if eqL (kindsL t.cols r.cols) (kindsL o.tables[q].cols k.cols) = true then 0 else 63) := by
      unfold ckE
      rw [if_neg hq, hqe, Int.toNat_natCast, List.getElem?_eq_getElem hqn]
    have HSMQ := Lib.hid (HSM.out.2.2 q hqn)
    rw [hqe]
    have hbl : b < w.heap.size := Nat.lt_of_lt_of_le hbB hB
    obtain ⟨nca, ncc, rfl, hncc, hncm⟩ := hnc.form
    obtain ⟨nra, nrc, rfl, hnrc, hnrm⟩ := hnr.form
    have HCK := Lib.hid hck
    generalize o.tables[q] = nt at *
    clear hck hq hqe hti' htl' hqn
    unfold maxLen at hncm hnrm
    have c0 : w2.cell? ⟨b, of + q * 5, none⟩ = _ := (HB2.out.cell (p := ⟨b, of + q * 5 + 0, none⟩) hbl).trans (hxl 0 _ rfl)
    have c1 := (HB2.out.cell (p := ⟨b, of + q * 5 + 1, none⟩) hbl).trans (hxl 1 _ rfl)
    have c2 := (HB2.out.cell (p := ⟨b, of + q * 5 + 2, none⟩) hbl).trans (hxl 2 _ rfl)
    have c3 := (HB2.out.cell (p := ⟨b, of + q * 5 + 3, none⟩) hbl).trans (hxl 3 _ rfl)
    have c4 := (HB2.out.cell (p := ⟨b, of + q * 5 + 4, none⟩) hbl).trans (hxl 4 _ rfl)
    have d0 := box_at HR0.out 1 rfl
    have hal := (Gr.alloc w2 (.cells #[.string nt.schema, .string nt.name, .string nt.owner, .slice nca nt.cols.length ncc, .slice nra nt.rules.length nrc] 35)).below
    have HN3 := Lib.hid (heap_alloc_new w2 (.cells #[.string nt.schema, .string nt.name, .string nt.owner, .slice nca nt.cols.length ncc, .slice nra nt.rules.length nrc] 35))
    have HAL := Lib.hid hal
    have d2 := cell_on hal (box_at HR2.out 7 rfl)
    have d2b := cell_on hal (box_at HR2.out 2 rfl)
    clear hxl hal
    go_wp2_with fail
    clear c0 c1 c2 c3 c4 d0
    have HB3 := Lib.hid (HB2.out.trans (HAL.out.mono HB2.out.size))
    generalize hp3 : w2.heap.size = p3 at *
    generalize World.alloc w2 _ = w3 at *
    have HNR := Lib.hid (ruls_keep hnr (fun _ h => h) (Keeps.of_below HB3.out fun j hj => Nat.lt_of_lt_of_le hj hB))
    refine (prog_rulplace_any B nra nt.rules.length nrc nt.rules r.key w3 HNR.out (Nat.le_trans hB HB3.out.size)).mono ?_
    rintro e w4 ⟨rfl, hg4⟩
    have HB4 := Lib.hid (HB3.out.trans (hg4.below.mono HB3.out.size))
    have s1 := box_at ((hg4.below.block _ (lt_of_block ((HAL.out.block _ (by rw [← hp3]; exact lt_of_block HR1.out)).trans HR1.out))).trans ((HAL.out.block _ (by rw [← hp3]; exact lt_of_block HR1.out)).trans HR1.out)) 3 rfl
    have s2 := cell_on hg4.below d2b
    have s3 := box_at ((hg4.below.block _ (lt_of_block HN3.out)).trans HN3.out) 3 rfl
    have s4 := box_at ((hg4.below.block _ (lt_of_block HN3.out)).trans HN3.out) 4 rfl
    have hri := idxI_ge (fun x : Rul => eqT x.name r.key) nt.rules
    have hrl := idxI_lt (fun x : Rul => eqT x.name r.key) nt.rules
    have hri' : -1 ≤ rulI nt.rules r.key := hri
    have hrl' : rulI nt.rules r.key < (nt.rules.length : Int) := hrl
    clear hri hrl hg4 hp3
    by_cases hq2 : rulI nt.rules r.key < 0
    · have HF := Lib.hid (show ckE o.tables t.cols r = 61 by rw [HCK.out, if_pos hq2])
      have e1 : rulI nt.rules r.key = -1 := by omega
      rw [e1]
      clear hq2 e1 hri' hrl'
      go_wp2_with fail
      go_ret
      exact ⟨by rw [HF.out]; rfl, HB4.out⟩
    · obtain ⟨y, hye⟩ : ∃ y : Nat, rulI nt.rules r.key = y := ⟨(rulI nt.rules r.key).toNat, by omega⟩
      have hyn : y < nt.rules.length := by omega
      have e3 : ((y : Int) == -1) = false := by rw [beq_eq_false_iff_ne]; omega
      have y0 : (0 : Int) ≤ (y : Int) := by omega
      have y1 : (y : Int) < (nt.rules.length : Int) := by omega
      obtain ⟨rb, ro, rx, rfl, hrB, ⟨kv, rfl, hkv⟩, hrxl⟩ := hnr.at hyn
      have HSK := Lib.hid (HSMQ.out.2.2 y hyn)
      have hck2 : ckE o.tables t.cols r = if nt.rules[y].kind ≠ 2 then 61 else if eqL (kindsL t.cols r.cols) (kindsL nt.cols nt.rules[y].cols) = true then 0 else 63 := by
        rw [HCK.out, if_neg hq2, hye, Int.toNat_natCast, List.getElem?_eq_getElem hyn]
      have HCK2 := Lib.hid hck2
      rw [hye]
      have hrbl : rb < w.heap.size := Nat.lt_of_lt_of_le hrB hB
      obtain ⟨kva, kvc, rfl, hkvc, hkvm⟩ := hkv.form
      generalize nt.rules[y] = ky at *
      generalize nt.rules.length = nn at *
      have g1 := (HB4.out.cell (p := ⟨rb, ro + y * 8 + 1, none⟩) hrbl).trans (hrxl 1 _ rfl)
      have g2 := (HB4.out.cell (p := ⟨rb, ro + y * 8 + 2, none⟩) hrbl).trans (hrxl 2 _ rfl)
      clear hck2 hq2 hye hri' hrl' hyn hrxl
      by_cases hk2 : ky.kind = 2
      · have e4 : (ky.kind != 2) = false := by rw [bne_eq_false_iff_eq]; exact hk2
        have HCK3 := Lib.hid (show ckE o.tables t.cols r = if eqL (kindsL t.cols r.cols) (kindsL nt.cols ky.cols) = true then 0 else 63 by rw [HCK2.out, if_neg (by simp [hk2])])
        clear hk2
        have s1 : w4.cell? ⟨w.heap.size + 1, 3, none⟩ = some (.slice ca cn cc) := s1
        have s2 : w4.cell? ⟨w.heap.size + 1 + 1, 2, none⟩ = some (.slice ra rn rc) := s2
        have s3 : w4.cell? ⟨p3, 3, none⟩ = some (.slice nca nt.cols.length ncc) := s3
        have s4 : w4.cell? ⟨p3, 4, none⟩ = some (.slice (some ⟨rb, ro, none⟩) nn nrc) := s4
        have HALL := Lib.hid (fun (W : World) (h : CkS w4 W) => show W.cell? ⟨w.heap.size + 1 + 1, 2, none⟩ = some (.slice ra rn rc) ∧ W.cell? ⟨w.heap.size + 1, 3, none⟩ = some (.slice ca cn cc) ∧ W.cell? ⟨p3, 4, none⟩ = some (.slice (some ⟨rb, ro, none⟩) nn nrc) ∧ W.cell? ⟨p3, 3, none⟩ = some (.slice nca nt.cols.length ncc) ∧ W.cell? ⟨rb, ro + y * 8 + 2, none⟩ = some (.slice kva ky.cols.length kvc) ∧ CkS w4 W from
          ⟨cell_on h s2, cell_on h s1, cell_on h s4, cell_on h s3, cell_on h g2, h⟩)
        have HBW := Lib.hid (fun (W : World) (h : CkS w4 W) => HB4.out.trans (Below.mono h HB4.out.size))
        have HKW := Lib.hid (fun (W : World) (h : CkS w4 W) => (Keeps.of_below (HBW.out W h) fun j hj => Nat.lt_of_lt_of_le hj hB : Keeps (· < B) w W))
        have HK1 := Lib.hid (fun (W : World) (h : CkS w4 W) => prog_kinds_any ra rn rc B r.cols ca cn cc t.cols W (strs_keep HR.out (fun _ h => h) (HKW.out W h)) (cols_keep HC.out (fun _ h => h) (HKW.out W h)) (Nat.le_trans hB (HBW.out W h).size) hr3)
        have HK2 := Lib.hid (fun (W : World) (h : CkS w4 W) => prog_kinds_any kva ky.cols.length kvc B ky.cols nca nt.cols.length ncc nt.cols W (strs_keep hkv (fun _ h => h) (HKW.out W h)) (cols_keep hnc (fun _ h => h) (HKW.out W h)) (Nat.le_trans hB (HBW.out W h).size) HSK.out)
        have hS0 := CkS.refl w4
        have hS0d := hS0.drew
        generalize kindsL t.cols r.cols = l1 at *
        generalize kindsL nt.cols ky.cols = l2 at *
        cases heq : eqL l1 l2
        all_goals
          have HE := Lib.hid (fun (B B' : Nat) (e e' : TypeId) (v v' : Value) (w : World) (h : OwnX kinQ w B e 1 v l1) (h' : OwnX kinQ w B' e' 1 v' l2) => prog_eqkinds_any B B' e e' v v' l1 l2 w h h')
          rw [heq] at HE HCK3
          clear heq
          go_wp2_with fail
          go_region_held3 (fun W => W.cell? ⟨w.heap.size + 1 + 1, 2, none⟩ = some (.slice ra rn rc) ∧ W.cell? ⟨w.heap.size + 1, 3, none⟩ = some (.slice ca cn cc) ∧ W.cell? ⟨p3, 4, none⟩ = some (.slice (some ⟨rb, ro, none⟩) nn nrc) ∧ W.cell? ⟨p3, 3, none⟩ = some (.slice nca nt.cols.length ncc) ∧ W.cell? ⟨rb, ro + y * 8 + 2, none⟩ = some (.slice kva ky.cols.length kvc) ∧ CkS w4 W)
            (first | assumption | exact HALL.out _ (by assumption) | exact HALL.out _ (CkS.drew (by assumption)))
            (first
              | (go_at_call_of 131 (Value.slice ra rn rc); refine (HK1.out _ (by assumption)).mono ?_; rintro e w5 ⟨kv1, rfl, hkv1, hb5⟩; have hS5 := CkS.next (w4 := w4) (by assumption) hb5)
              | (go_at_call_of 131 (Value.slice kva ky.cols.length kvc); refine (HK2.out _ (by assumption)).mono ?_; rintro e w6 ⟨kv2, rfl, hkv2, hb6⟩; have hS6 := CkS.next (w4 := w4) (by assumption) hb6)
              | (go_at_call 133; refine (HE.out _ _ _ _ _ _ _ (hkv1.below kin_stays hb6) hkv2).mono ?_; rintro e w7 ⟨rfl, hg7⟩; have hS7 := CkS.next (w4 := w4) (by assumption) hg7.below))
          have HF := Lib.hid (HBW.out _ hS7)
          clear hS0 hS0d hS5 hS6 hS7 hb5 hb6 hkv1 hkv2 hg7
          go_wp2_with fail
          go_ret
          exact ⟨by rw [HCK3.out]; rfl, HF.out⟩
      · have e4 : (ky.kind != 2) = true := by rw [bne_iff_ne]; exact hk2
        have HF := Lib.hid (show ckE o.tables t.cols r = 61 by rw [HCK2.out, if_pos hk2])
        clear hk2
        go_wp2_with fail
        go_ret
        exact ⟨by rw [HF.out]; rfl, HB4.out⟩
end Go.Proofs.Ytkghkioghkapcaa
