/-
  The document's answer for layer 7, by contract: key.
-/
import Derived.Test.YtkghkioghkapcaaObjD
import Derived.Test.YtkghkioghkapcaaSetsC
namespace Go.Proofs.Ytkghkioghkapcaa
open Go.RowKit Go.Sort

theorem keyE_none {ts : List Tab} {l : List Col} {r : Rul} (h : tabI ts r.schema r.table < 0) : keyE ts l r = 61 := by
  unfold keyE
  split
  · rfl
  · rw [if_pos h]
/-- The key's error, where the table is there. -/
def keyT (t : Tab) (l : List Col) (r : Rul) : Int :=
  match t.rules[(rulI t.rules r.key).toNat]? with
    | none => 61
    | some k =>
      if rulI t.rules r.key < 0 then 61 else if k.kind ≠ 2 then 61 else
      if k.cols.length ≠ r.cols.length then 63 else
      if (List.range k.cols.length).all (pairAt l t.cols r.cols k.cols) then 0 else 63
theorem keyE_at {ts : List Tab} {l : List Col} {r : Rul} (h : ¬ tabI ts r.schema r.table < 0) (ht : (tabI ts r.schema r.table).toNat < ts.length) : keyE ts l r = keyT ts[(tabI ts r.schema r.table).toNat] l r := by
  unfold keyE keyT
  rw [List.getElem?_eq_getElem ht]
  simp only [if_neg h]
  rfl
theorem keyT_none {t : Tab} {l : List Col} {r : Rul} (h : rulI t.rules r.key < 0) : keyT t l r = 61 := by
  unfold keyT
  split
  · rfl
  · rw [if_pos h]
def keyK (t : Tab) (k : Rul) (l : List Col) (r : Rul) : Int :=
  if k.kind ≠ 2 then 61 else if k.cols.length ≠ r.cols.length then 63 else if (List.range k.cols.length).all (pairAt l t.cols r.cols k.cols) then 0 else 63
theorem keyT_at {t : Tab} {l : List Col} {r : Rul} (h : ¬ rulI t.rules r.key < 0) (ht : (rulI t.rules r.key).toNat < t.rules.length) : keyT t l r = keyK t t.rules[(rulI t.rules r.key).toNat] l r := by
  unfold keyT keyK
  rw [List.getElem?_eq_getElem ht]
  simp only [if_neg h]
theorem pairAt_get {l m : List Col} {n there : List ByteArray} {k : Nat} (h1 : k < n.length) (h2 : k < there.length) :
    pairAt l m n there k = (decide (0 ≤ colI l n[k]) && (decide (0 ≤ colI m there[k]) && decide (kindAt l (colI l n[k]) = kindAt m (colI m there[k])))) := by
  unfold pairAt
  rw [List.getD_eq_getElem?_getD, List.getElem?_eq_getElem h1, List.getD_eq_getElem?_getD, List.getElem?_eq_getElem h2]
  rfl
theorem box_five (w : World) (x0 x1 x2 x3 x4 : Value) (t : TypeId) : ∀ (j : Nat) v, [x0, x1, x2, x3, x4][j]? = some v → (w.alloc (.cells #[x0, x1, x2, x3, x4] t)).cell? ⟨w.heap.size, j, none⟩ = some v := by
  intro j v hj
  rw [cell_of_row _ _ _ _ _ _ (heap_alloc_new w _)]
  simpa using hj

set_option maxRecDepth 100000 in
set_option maxHeartbeats 16000000 in
theorem ref_key_any (a : Option Addr) (n c B : Nat) (l : List Col) (o : Objs) (r : Rul) (vs vt v : Value) (w : World) (h : Lst w (· < B) colP 3 (.slice a n c) l) (ho : objP w (· < B) [vs, vt] o) (hr : Lst w (· < B) strP 1 v r.cols) (hB : B ≤ w.heap.size) :
    Calls Try.prog 104 #[.agg #[vs, vt], .slice a n c, .agg #[.string r.name, .int .i64 r.kind, v, .int .i64 r.low, .int .i64 r.high, .string r.schema, .string r.table, .string r.key]] w fun e w' => e = .returned (.int .i64 (keyE o.tables l r)) ∧ Gr w w' := by
  have mixed := mixed_ok
  obtain ⟨hl, hc, hm⟩ := h.len
  obtain ⟨ra, rc, rfl, hrc, hrm⟩ := hr.form
  obtain ⟨m, hml⟩ : ∃ m, r.cols.length = m := ⟨_, rfl⟩
  rw [hml] at hr hrc
  unfold maxLen at hm hrm
  have HL := Lib.hid hl; have HML := Lib.hid hml
  have HO := Lib.hid ho
  obtain ⟨_, _, hv, _, hts⟩ := ho
  simp only [List.cons.injEq, and_true] at hv
  obtain ⟨rfl, rfl⟩ := hv
  obtain ⟨ta, tc, rfl, htc, htm⟩ := hts.form
  obtain ⟨tn, htn⟩ : ∃ tn, o.tables.length = tn := ⟨_, rfl⟩
  rw [htn] at hts htc
  unfold maxLen at htm
  have HTN := Lib.hid htn
  rw [hml, htn]
  rw [htn] at HO
  have hb1 := box_two w vs (.slice ta tn tc) 26
  have hg1 := Gr.alloc w (.cells #[vs, .slice ta tn tc] 26)
  have hs1 : (w.alloc (.cells #[vs, .slice ta tn tc] 26)).heap.size = w.heap.size + 1 := by simp
  have hbox := box_rule (w.alloc (.cells #[vs, .slice ta tn tc] 26)) (.string r.name) (.int .i64 r.kind) (.slice ra m rc) (.int .i64 r.low) (.int .i64 r.high) (.string r.schema) (.string r.table) (.string r.key) 56
  have hg2 := Gr.alloc (w.alloc (.cells #[vs, .slice ta tn tc] 26)) (.cells #[.string r.name, .int .i64 r.kind, .slice ra m rc, .int .i64 r.low, .int .i64 r.high, .string r.schema, .string r.table, .string r.key] 56)
  rw [hs1] at hbox
  have hs2 : ((w.alloc (.cells #[vs, .slice ta tn tc] 26)).alloc (.cells #[.string r.name, .int .i64 r.kind, .slice ra m rc, .int .i64 r.low, .int .i64 r.high, .string r.schema, .string r.table, .string r.key] 56)).heap.size = w.heap.size + 2 := by simp
  have hb1' := fun (p : Addr) x (hx : (w.alloc (.cells #[vs, .slice ta tn tc] 26)).cell? p = some x) => cell_on hg2.below hx
  have d0 := hb1' _ _ hb1.1
  have d1 := hb1' _ _ hb1.2
  have HG := Lib.hid (hg1.trans hg2)
  have HBX := Lib.hid hbox
  have HH := Lib.hid h; have HR := Lib.hid hr; have HT := Lib.hid hts
  clear h hr hts hbox hb1' hb1 hg1 hg2 hs1 hml hl htn
  go_enter Try.func104, Try.ntmps104
  go_wp2_with fail
  generalize hw2 : World.alloc (World.alloc w _) _ = w2 at *
  clear hw2
  have hww := HG.out
  have hge : -1 ≤ tabI o.tables r.schema r.table := idxI_ge _ _
  have hlt : tabI o.tables r.schema r.table < (o.tables.length : Int) := idxI_lt _ _
  refine (ref_table_any B vs (.slice ta tn tc) o r.schema r.table w2 (obj_keep HO.out (fun _ h => h) (hww.keeps fun j hj => Nat.lt_of_lt_of_le hj hB))).mono ?_
  rintro e w3 ⟨rfl, hg3⟩
  have hw3 := hww.trans hg3
  have hbl0 : w.heap.size < w2.heap.size := by omega
  have hbl1 : w.heap.size + 1 < w2.heap.size := by omega
  by_cases hi : tabI o.tables r.schema r.table < 0
  · have HF := Lib.hid (keyE_none (l := l) hi)
    generalize tabI o.tables r.schema r.table = i at *
    go_wp2_with fail
    go_ret
    exact ⟨by rw [HF.out]; rfl, hw3⟩
  · have hit : (tabI o.tables r.schema r.table).toNat < o.tables.length := by omega
    have hke := keyE_at (l := l) hi hit
    obtain ⟨tb, to_, x, rfl, htB, hx, hxl⟩ := HT.out.at hit
    rw [HTN.out] at hlt
    generalize htt : o.tables[(tabI o.tables r.schema r.table).toNat] = t at *
    clear htt hit
    generalize tabI o.tables r.schema r.table = i at *
    obtain ⟨vc, vr, rfl, hcs, hrs⟩ := hx
    obtain ⟨ra', rc', rfl, hrc', hrm'⟩ := hrs.form
    obtain ⟨ca, cc, rfl, hcc, hcm⟩ := hcs.form
    obtain ⟨rn, hrn⟩ : ∃ rn, t.rules.length = rn := ⟨_, rfl⟩
    obtain ⟨cn, hcn⟩ : ∃ cn, t.cols.length = cn := ⟨_, rfl⟩
    rw [hrn] at hrs hrc' hxl
    rw [hcn] at hcs hcc hxl
    unfold maxLen at hrm' hcm
    have htl : tb < w.heap.size := Nat.lt_of_lt_of_le htB hB
    have y0 := (hw3.below.cell (p := ⟨tb, to_ + i.toNat * 5 + 0, none⟩) htl).trans (hxl 0 _ rfl)
    have y1 := (hw3.below.cell (p := ⟨tb, to_ + i.toNat * 5 + 1, none⟩) htl).trans (hxl 1 _ rfl)
    have y2 := (hw3.below.cell (p := ⟨tb, to_ + i.toNat * 5 + 2, none⟩) htl).trans (hxl 2 _ rfl)
    have y3 := (hw3.below.cell (p := ⟨tb, to_ + i.toNat * 5 + 3, none⟩) htl).trans (hxl 3 _ rfl)
    have y4 := (hw3.below.cell (p := ⟨tb, to_ + i.toNat * 5 + 4, none⟩) htl).trans (hxl 4 _ rfl)
    rw [Nat.add_zero] at y0
    have z1 := cell_on hg3.below d1
    have hi0 : 0 ≤ i := by omega
    have hbt := box_five w3 (.string t.schema) (.string t.name) (.string t.owner) (.slice ca cn cc) (.slice ra' rn rc') 35
    have hg4 := Gr.alloc w3 (.cells #[.string t.schema, .string t.name, .string t.owner, .slice ca cn cc, .slice ra' rn rc'] 35)
    have hl3 : w3.heap.size < (w3.alloc (.cells #[.string t.schema, .string t.name, .string t.owner, .slice ca cn cc, .slice ra' rn rc'] 35)).heap.size := by simp
    have hw4 := hw3.trans hg4
    have hg24 := hg3.trans hg4
    have q7 := cell_on hg24.below (HBX.out 7 _ rfl)
    have q2 := cell_on hg24.below (HBX.out 2 _ rfl)
    have b4 := hbt 4 _ rfl
    have b3 := hbt 3 _ rfl
    have HRS := Lib.hid hrs; have HCS := Lib.hid hcs; have HRN := Lib.hid hrn; have HCN := Lib.hid hcn
    have HKE := Lib.hid hke
    have HW4 := Lib.hid hw4
    have HI3 := Lib.hid hl3
    clear hbt hg3 hg4 hg24 hxl hrs hcs hrn hcn hke hge hi d0 d1 hw4 hl3
    have hk0 : -1 ≤ rulI t.rules r.key := idxI_ge _ _
    have hk1 : rulI t.rules r.key < (t.rules.length : Int) := idxI_lt _ _
    rw [HRN.out] at hk1
    have HCA := Lib.hid (fun (W : World) (hW : Gr w W) => ref_rule_any ra' rn rc' B t.rules r.key W (ruls_keep HRS.out (fun _ h => h) (hW.keeps fun j hj => Nat.lt_of_lt_of_le hj hB)))
    go_wp2_with fail
    generalize hw4 : World.alloc w3 _ = w4 at *
    clear hw4 y0 y1 y2 y3 y4 z1
    have hww4 := HW4.out
    refine (HCA.out w4 hww4).mono ?_
    rintro e w5 ⟨rfl, rfl⟩
    clear HCA
    by_cases hk : rulI t.rules r.key < 0
    · have HF := Lib.hid (HKE.out.trans (keyT_none hk))
      generalize rulI t.rules r.key = ki at *
      go_wp2_with fail
      go_ret
      exact ⟨by rw [HF.out]; rfl, hww4⟩
    · have hkt : (rulI t.rules r.key).toNat < t.rules.length := by rw [HRN.out]; omega
      have hkk := HKE.out.trans (keyT_at hk hkt)
      obtain ⟨kb, ko, x, rfl, hkB, hx, hxl⟩ := HRS.out.at hkt
      generalize hKK : t.rules[(rulI t.rules r.key).toNat] = K at *
      clear hKK hkt
      generalize rulI t.rules r.key = ki at *
      obtain ⟨kv, rfl, hks⟩ := hx
      obtain ⟨ka, kc, rfl, hkc, hkm⟩ := hks.form
      obtain ⟨kn, hkn⟩ : ∃ kn, K.cols.length = kn := ⟨_, rfl⟩
      rw [hkn] at hks hkc hxl
      unfold maxLen at hkm
      have hkl : kb < w.heap.size := Nat.lt_of_lt_of_le hkB hB
      have y1 := (hww4.below.cell (p := ⟨kb, ko + ki.toNat * 8 + 1, none⟩) hkl).trans (hxl 1 _ rfl)
      have y2 := (hww4.below.cell (p := ⟨kb, ko + ki.toNat * 8 + 2, none⟩) hkl).trans (hxl 2 _ rfl)
      have hki0 : 0 ≤ ki := by omega
      have hd : decide (ki < 0) = false := decide_eq_false hk
      have HKN := Lib.hid hkn; have HKS := Lib.hid hks
      clear hxl hkn hks hk
      by_cases hkd : K.kind = 2
      · by_cases hlen : kn = m
        · subst hlen
          have hyes : (List.range kn).all (pairAt l t.cols r.cols K.cols) = true → keyE o.tables l r = 0 := fun h => by
            rw [hkk]; unfold keyK; rw [if_neg (by simpa using hkd), if_neg (by rw [HKN.out, HML.out]; simp), HKN.out, h]; rfl
          have hno : ∀ k, k < kn → pairAt l t.cols r.cols K.cols k = false → keyE o.tables l r = 63 := fun k hk hp => by
            rw [hkk]; unfold keyK; rw [if_neg (by simpa using hkd), if_neg (by rw [HKN.out, HML.out]; simp), HKN.out, all_range_no hk hp]; rfl
          have HY := Lib.hid hyes; have HNO := Lib.hid hno
          clear hyes hno hkk
          generalize K.kind = kk at *
          subst hkd
          go_wp2_with fail
          clear y1 y2
          go_loopw [11] (fun i wr => ∃ k : Nat, k ≤ kn ∧ i = .int .i64 k ∧ Hid (∀ j, j < k → pairAt l t.cols r.cols K.cols j = true) ∧ Gr w4 wr) (fun i _ => kn - (intOf i).toNat)
          case atStart => exact ⟨0, Nat.zero_le _, rfl, Lib.hid (fun _ h => by omega), Gr.refl _⟩
          case round =>
            obtain ⟨k, hk, rfl, hn, hgr⟩ := hrel
            by_cases hlt2 : k < kn
            · have lk1 : k < r.cols.length := by rw [HML.out]; exact hlt2
              have lk2 : k < K.cols.length := by rw [HKN.out]; exact hlt2
              have hp := pairAt_get (l := l) (m := t.cols) lk1 lk2
              obtain ⟨sb, so, x, rfl, hsB, hx, hxl⟩ := HR.out.at lk1
              obtain ⟨ub, uo, y, rfl, huB, hy, hyl⟩ := HKS.out.at lk2
              have hsl : sb < w.heap.size := Nat.lt_of_lt_of_le hsB hB
              have hul : ub < w.heap.size := Nat.lt_of_lt_of_le huB hB
              have hwr := hww4.trans hgr
              have s0 := (hwr.below.cell (p := ⟨sb, so + k * 1 + 0, none⟩) hsl).trans (hxl 0 _ (by rw [hx]; rfl))
              have u0 := (hwr.below.cell (p := ⟨ub, uo + k * 1 + 0, none⟩) hul).trans (hyl 0 _ (by rw [hy]; rfl))
              have q2' := cell_on hgr.below q2
              have b3' := cell_on hgr.below b3
              simp only [Nat.mul_one, Nat.add_zero] at s0 u0
              have hno := HNO.out k hlt2
              have hst := fun h => upto_succ hn.out h
              have hqa0 : -1 ≤ colI l r.cols[k] := idxI_ge _ _
              have hqa1 : colI l r.cols[k] < (l.length : Int) := idxI_lt _ _
              have hqb0 : -1 ≤ colI t.cols K.cols[k] := idxI_ge _ _
              have hqb1 : colI t.cols K.cols[k] < (t.cols.length : Int) := idxI_lt _ _
              rw [HL.out] at hqa1
              rw [HCN.out] at hqb1
              have HC1 := Lib.hid (ref_column_any a n c B l r.cols[k] wr (cols_keep HH.out (fun _ h => h) (hwr.keeps fun j hj => Nat.lt_of_lt_of_le hj hB)))
              have HC2 := Lib.hid (fun (W : World) (hW : Gr wr W) => (ref_column_any ca cn cc B t.cols K.cols[k] W (cols_keep HCS.out (fun _ h => h) ((hwr.trans hW).keeps fun j hj => Nat.lt_of_lt_of_le hj hB))).mono (R' := fun e w' => e = .returned (.int .i64 (colI t.cols K.cols[k])) ∧ Gr W w') fun _ _ ⟨h1, h2⟩ => ⟨h1, by subst h2; exact Gr.refl _⟩)
              have hqa := fun (h : ¬ colI l r.cols[k] < 0) => HH.out.at (k := (colI l r.cols[k]).toNat) (by rw [HL.out]; omega)
              have hqb := fun (h : ¬ colI t.cols K.cols[k] < 0) => HCS.out.at (k := (colI t.cols K.cols[k]).toNat) (by rw [HCN.out]; omega)
              have k0 : (0 : Int) ≤ (k : Int) := by omega
              have k1 : (k : Int) < (kn : Int) := by omega
              have hbu := fun n' os => cell_grown (w := wr) (a := ⟨ub, uo + k, none⟩) (Nat.lt_of_lt_of_le hul hwr.below.size) u0 n' os
              have hw4l : w3.heap.size < wr.heap.size := Nat.lt_of_lt_of_le HI3.out hgr.below.size
              have hb3 := fun n' os => cell_grown (w := wr) (a := ⟨w3.heap.size, 3, none⟩) hw4l b3' n' os
              clear hx hxl hy hyl u0
              by_cases ha : colI l r.cols[k] < 0
              · have HF := Lib.hid (hno (by rw [hp, decide_eq_false (by omega)]; rfl))
                clear hp hno hst hqa hqb
                generalize colI l r.cols[k] = qa at *
                generalize colI t.cols K.cols[k] = qb at *
                generalize r.cols[k] = s1 at *
                generalize K.cols[k] = s2 at *
                have ea : decide (qa < 0) = true := decide_eq_true ha
                go_wp2_with fail
                refine HC1.out.mono ?_
                rintro e w' ⟨rfl, rfl⟩
                go_wp2_with fail
                refine Go.wp_region_quiet_grown mixed (by kernel_rfl) ?_
                repeat (go_big_quiet_step (first | (go_at_call 86; exact gr_from HC2.out)))
                refine Go.wpQuiet_nil ?_
                intro _ hw'
                obtain ⟨⟨nq, osq⟩, hw''⟩ := hw'
                subst hw''
                have hgx := Gr.grown wr nq osq
                generalize hwx : grow (wr.drewN (GrownBy.mk nq osq).n) (GrownBy.mk nq osq).os = wx
                replace hgx : Gr wr wx := hwx ▸ hgx
                clear hwx
                clear hb3 hbu
                go_wp2_with fail
                refine Go.wp_region_quiet_grown mixed (by kernel_rfl) ?_
                repeat (go_big_quiet_step (fail))
                refine Go.wpQuiet_nil ?_
                intro _ hw'
                obtain ⟨⟨nq, osq⟩, hw''⟩ := hw'
                subst hw''
                go_wp2_with fail
                go_ret
                exact ⟨by rw [HF.out]; rfl, (hwr.trans hgx).trans (Gr.grown _ _ _)⟩
              · by_cases hb : colI t.cols K.cols[k] < 0
                · have HF := Lib.hid (hno (by rw [hp, decide_eq_false (show ¬ 0 ≤ colI t.cols K.cols[k] by omega)]; simp))
                  clear hp hno hst hqa hqb
                  generalize colI l r.cols[k] = qa at *
                  generalize colI t.cols K.cols[k] = qb at *
                  generalize r.cols[k] = s1 at *
                  generalize K.cols[k] = s2 at *
                  have ea : decide (qa < 0) = false := decide_eq_false ha
                  have eb : decide (qb < 0) = true := decide_eq_true hb
                  go_wp2_with fail
                  refine HC1.out.mono ?_
                  rintro e w' ⟨rfl, rfl⟩
                  go_wp2_with fail
                  refine Go.wp_region_quiet_grown mixed (by kernel_rfl) ?_
                  repeat (go_big_quiet_step (first | (go_at_call 86; exact gr_from HC2.out)))
                  refine Go.wpQuiet_nil ?_
                  intro _ hw'
                  obtain ⟨⟨nq, osq⟩, hw''⟩ := hw'
                  subst hw''
                  have hgx := Gr.grown wr nq osq
                  generalize hwx : grow (wr.drewN (GrownBy.mk nq osq).n) (GrownBy.mk nq osq).os = wx
                  replace hgx : Gr wr wx := hwx ▸ hgx
                  clear hwx
                  clear hb3 hbu
                  go_wp2_with fail
                  refine Go.wp_region_quiet_grown mixed (by kernel_rfl) ?_
                  repeat (go_big_quiet_step (fail))
                  refine Go.wpQuiet_nil ?_
                  intro _ hw'
                  obtain ⟨⟨nq, osq⟩, hw''⟩ := hw'
                  subst hw''
                  go_wp2_with fail
                  go_ret
                  exact ⟨by rw [HF.out]; rfl, (hwr.trans hgx).trans (Gr.grown _ _ _)⟩
                · obtain ⟨lb, lo, x1, rfl, hlB, hx1, hxl1⟩ := hqa ha
                  obtain ⟨mb, mo, x2, rfl, hmB, hx2, hxl2⟩ := hqb hb
                  have hll : lb < w.heap.size := Nat.lt_of_lt_of_le hlB hB
                  have hml' : mb < w.heap.size := Nat.lt_of_lt_of_le hmB hB
                  have e1 := hxl1 1 (.int .i64 (kindAt l (colI l r.cols[k]))) (by rw [hx1, kindAt_get (by omega) (by rw [HL.out]; omega)]; rfl)
                  have e2 := hxl2 1 (.int .i64 (kindAt t.cols (colI t.cols K.cols[k]))) (by rw [hx2, kindAt_get (by omega) (by rw [HCN.out]; omega)]; rfl)
                  have ea : decide (colI l r.cols[k] < 0) = false := decide_eq_false ha
                  have eb : decide (colI t.cols K.cols[k] < 0) = false := decide_eq_false hb
                  have ga : 0 ≤ colI l r.cols[k] := by omega
                  have gb : 0 ≤ colI t.cols K.cols[k] := by omega
                  rw [decide_eq_true ga, decide_eq_true gb] at hp
                  clear hqa hqb hx1 hxl1 hx2 hxl2
                  generalize colI l r.cols[k] = qa at *
                  generalize colI t.cols K.cols[k] = qb at *
                  generalize r.cols[k] = s1 at *
                  generalize K.cols[k] = s2 at *
                  generalize kindAt l qa = k1' at *
                  generalize kindAt t.cols qb = k2' at *
                  by_cases hke : k1' = k2'
                  · have HS := Lib.hid (hst (by rw [hp, decide_eq_true hke]; rfl))
                    have en : (k1' != k2') = false := by simpa using hke
                    clear hp hno hst
                    go_wp2_with fail
                    refine HC1.out.mono ?_
                    rintro e w' ⟨rfl, rfl⟩
                    go_wp2_with fail
                    refine Go.wp_region_quiet_grown mixed (by kernel_rfl) ?_
                    repeat (go_big_quiet_step (first | (go_at_call 86; exact gr_from HC2.out)))
                    refine Go.wpQuiet_nil ?_
                    intro _ hw'
                    obtain ⟨⟨nq, osq⟩, hw''⟩ := hw'
                    subst hw''
                    have hgx := Gr.grown wr nq osq
                    generalize hwx : grow (wr.drewN (GrownBy.mk nq osq).n) (GrownBy.mk nq osq).os = wx
                    replace hgx : Gr wr wx := hwx ▸ hgx
                    clear hwx
                    have f1 := fun n' os => cell_grown (w := wx) (a := ⟨lb, lo + qa.toNat * 3 + 1, none⟩) (Nat.lt_of_lt_of_le hll (hwr.trans hgx).below.size) (((hwr.trans hgx).below.cell (p := ⟨lb, lo + qa.toNat * 3 + 1, none⟩) hll).trans e1) n' os
                    have f2 := fun n' os => cell_grown (w := wx) (a := ⟨mb, mo + qb.toNat * 3 + 1, none⟩) (Nat.lt_of_lt_of_le hml' (hwr.trans hgx).below.size) (((hwr.trans hgx).below.cell (p := ⟨mb, mo + qb.toNat * 3 + 1, none⟩) hml').trans e2) n' os
                    have f3 := fun n' os => cell_grown (w := wx) (a := ⟨w3.heap.size, 3, none⟩) (Nat.lt_of_lt_of_le hw4l hgx.below.size) (cell_on hgx.below b3') n' os
                    clear e1 e2
                    clear hb3 hbu
                    go_wp2_with fail
                    refine Go.wp_region_quiet_grown mixed (by kernel_rfl) ?_
                    repeat (go_big_quiet_step (fail))
                    refine Go.wpQuiet_nil ?_
                    intro _ hw'
                    obtain ⟨⟨nq, osq⟩, hw''⟩ := hw'
                    subst hw''
                    go_wp2_with fail
                    go_roundw
                    case rel => exact ⟨k + 1, by omega, by go_num, HS, (hgr.trans hgx).trans (Gr.grown _ _ _)⟩
                    case measure => simp [intOf]; omega
                  · have HF := Lib.hid (hno (by rw [hp, decide_eq_false hke]; rfl))
                    have en : (k1' != k2') = true := by simpa using hke
                    clear hp hno hst
                    go_wp2_with fail
                    refine HC1.out.mono ?_
                    rintro e w' ⟨rfl, rfl⟩
                    go_wp2_with fail
                    refine Go.wp_region_quiet_grown mixed (by kernel_rfl) ?_
                    repeat (go_big_quiet_step (first | (go_at_call 86; exact gr_from HC2.out)))
                    refine Go.wpQuiet_nil ?_
                    intro _ hw'
                    obtain ⟨⟨nq, osq⟩, hw''⟩ := hw'
                    subst hw''
                    have hgx := Gr.grown wr nq osq
                    generalize hwx : grow (wr.drewN (GrownBy.mk nq osq).n) (GrownBy.mk nq osq).os = wx
                    replace hgx : Gr wr wx := hwx ▸ hgx
                    clear hwx
                    have f1 := fun n' os => cell_grown (w := wx) (a := ⟨lb, lo + qa.toNat * 3 + 1, none⟩) (Nat.lt_of_lt_of_le hll (hwr.trans hgx).below.size) (((hwr.trans hgx).below.cell (p := ⟨lb, lo + qa.toNat * 3 + 1, none⟩) hll).trans e1) n' os
                    have f2 := fun n' os => cell_grown (w := wx) (a := ⟨mb, mo + qb.toNat * 3 + 1, none⟩) (Nat.lt_of_lt_of_le hml' (hwr.trans hgx).below.size) (((hwr.trans hgx).below.cell (p := ⟨mb, mo + qb.toNat * 3 + 1, none⟩) hml').trans e2) n' os
                    have f3 := fun n' os => cell_grown (w := wx) (a := ⟨w3.heap.size, 3, none⟩) (Nat.lt_of_lt_of_le hw4l hgx.below.size) (cell_on hgx.below b3') n' os
                    clear e1 e2
                    clear hb3 hbu
                    go_wp2_with fail
                    refine Go.wp_region_quiet_grown mixed (by kernel_rfl) ?_
                    repeat (go_big_quiet_step (fail))
                    refine Go.wpQuiet_nil ?_
                    intro _ hw'
                    obtain ⟨⟨nq, osq⟩, hw''⟩ := hw'
                    subst hw''
                    go_wp2_with fail
                    go_ret
                    exact ⟨by rw [HF.out]; rfl, (hwr.trans hgx).trans (Gr.grown _ _ _)⟩
            · have HF := Lib.hid (HY.out (all_range_iff.2 fun j hj => hn.out j (by omega)))
              go_wp2_with fail
              go_ret
              exact ⟨by rw [HF.out]; rfl, hww4.trans hgr⟩
        · have hF : keyE o.tables l r = 63 := by
            rw [hkk]; unfold keyK; rw [if_neg (by simpa using hkd), if_pos (by rw [HKN.out, HML.out]; exact hlen)]
          have HF := Lib.hid hF
          have hne : ((kn : Int) != (m : Int)) = true := by simp; omega
          clear hF hkk
          generalize K.kind = kk at *
          subst hkd
          go_wp2_with fail
          go_ret
          exact ⟨by rw [HF.out]; rfl, hww4⟩
      · have hF : keyE o.tables l r = 61 := by
          rw [hkk]; unfold keyK; rw [if_pos (by simpa using hkd)]
        have HF := Lib.hid hF
        have hne : (K.kind != 2) = true := by simpa using hkd
        clear hF hkk hkd
        generalize K.kind = kk at *
        go_wp2_with fail
        go_ret
        exact ⟨by rw [HF.out]; rfl, hww4⟩
end Go.Proofs.Ytkghkioghkapcaa
