/-
  Merged: ObpO, ObpO1, ObpO2, ObpP.
-/
import Derived.Test.YtkghkioghkapcaaObpM
import Derived.Test.YtkghkioghkapcaaObpG
import Derived.Test.YtkghkioghkapcaaObjV
namespace Go.Proofs.Ytkghkioghkapcaa
section
/-! Layer 7, the program, by contract: schemasRight, tableRight. -/
open Go.RowKit Go.Sort Go.Shelf

/-- Are schemas right? -/
def schsB (l : List Sch) : Bool := decide (l.length ≤ 8) && (l.all (fun s => nameB s.name && nameB s.owner) && riseB (fun a b => cmpI a.name b.name) l)
/-- Is a table right by itself? -/
def ownB (t : Tab) : Bool := (nameB t.name && (nameB t.owner && (colsB t.cols && decide (t.rules.length ≤ 8)))) && (t.rules.all (fitsB t.cols) && riseB (fun a b => cmpI a.name b.name) t.rules)
theorem all_at {α : Type} {p : α → Bool} {l : List α} : (∀ (j : Nat) (h : j < l.length), p l[j] = true) → l.all p = true := fun h => by
  rw [List.all_eq_true]
  intro x hx
  obtain ⟨j, hj, rfl⟩ := List.mem_iff_getElem.1 hx
  exact h j hj
theorem all_no {α : Type} {p : α → Bool} {l : List α} {j : Nat} (h : j < l.length) (hp : p l[j] = false) : l.all p = false := by
  rw [List.all_eq_false]
  exact ⟨l[j], List.getElem_mem h, by rw [hp]; simp⟩

set_option maxRecDepth 100000 in
set_option maxHeartbeats 4000000 in
theorem prog_schs_any (a : Option Addr) (n c B : Nat) (l : List Sch) (w : World) (h : Lst w (· < B) schP 2 (.slice a n c) l) (hB : B ≤ w.heap.size) :
    Calls Try.prog 49 #[.slice a n c] w fun e w' => e = .returned (.bool (schsB l)) ∧ Gr w w' := by
  obtain ⟨hl, hc, hm⟩ := h.len
  unfold maxLen at hm
  have HL := Lib.hid hl
  have HN := Lib.hid prog_name_any
  by_cases h8 : n ≤ 8
  · have i8 : ¬ (8 : Int) < (n : Int) := by omega
    have HYES := Lib.hid (fun (h : ∀ (j : Nat) (hj : j < l.length), (nameB l[j].name && nameB l[j].owner) = true) => show schsB l = riseB (fun a b => cmpI a.name b.name) l by unfold schsB; rw [hl, decide_eq_true h8, all_at (p := fun s : Sch => nameB s.name && nameB s.owner) h]; rfl)
    have HNO := Lib.hid (fun (j : Nat) (hj : j < l.length) (h : (nameB l[j].name && nameB l[j].owner) = false) => show schsB l = false by unfold schsB; rw [all_no (p := fun s : Sch => nameB s.name && nameB s.owner) hj h]; simp)
    have HH := Lib.hid h
    clear h hl
    go_enter Try.func49, Try.ntmps49
    go_wp2_with fail
    go_loopw [4, 10] (fun _ i wr => ∃ k : Nat, k ≤ n ∧ i = .int .i64 k ∧ Hid (∀ j (hj : j < l.length), j < k → (nameB l[j].name && nameB l[j].owner) = true) ∧ Gr w wr) (fun _ i _ => n - (intOf i).toNat)
    case atStart => exact ⟨0, Nat.zero_le _, rfl, Lib.hid (fun _ _ h => by omega), Gr.refl _⟩
    case round =>
      obtain ⟨k, hk, rfl, hn, hbw⟩ := hrel
      by_cases hlt : k < n
      · have lk : k < l.length := by rw [HL.out]; exact hlt
        obtain ⟨b, o, x, rfl, hbB, hx, hcl⟩ := HH.out.at lk
        have hbl : b < w.heap.size := Nat.lt_of_lt_of_le hbB hB
        have HNOk := Lib.hid (HNO.out k lk)
        have HST := Lib.hid (fun (h : (nameB l[k].name && nameB l[k].owner) = true) => show ∀ j (hj : j < l.length), j < k + 1 → (nameB l[j].name && nameB l[j].owner) = true from fun j hj hjk => by
          by_cases e : j = k
          · subst e; exact h
          · exact hn.out j hj (by omega))
        have k0 : (0 : Int) ≤ (k : Int) := by omega
        have k1 : (k : Int) < (n : Int) := by omega
        generalize l[k] = y at *
        obtain rfl : x = [.string y.name, .string y.owner] := hx
        have c0 : wr.cell? ⟨b, o + k * 2, none⟩ = _ := (hbw.below.cell (p := ⟨b, o + k * 2 + 0, none⟩) hbl).trans (hcl 0 _ rfl)
        have c1 := (hbw.below.cell (p := ⟨b, o + k * 2 + 1, none⟩) hbl).trans (hcl 1 _ rfl)
        have HG := Lib.hid (hbw.trans (Gr.alloc wr (.cells #[.string y.name, .string y.owner] 75)))
        clear hcl hn hbw
        have HNa := Lib.hid (HN.out y.name)
        have HNb := Lib.hid (HN.out y.owner)
        cases h1 : nameB y.name with
        | false =>
          rw [h1] at HNa
          have HF := Lib.hid (HNOk.out (by rw [h1]; rfl))
          clear h1
          go_wp2_with (go_at_call 12; refine (HNa.out _).mono ?_; rintro e w' ⟨rfl, rfl⟩)
          go_ret
          exact ⟨by rw [HF.out]; rfl, HG.out⟩
        | true =>
          rw [h1] at HNa
          cases h2 : nameB y.owner with
          | false =>
            rw [h2] at HNb
            have HF := Lib.hid (HNOk.out (by rw [h1, h2]; rfl))
            clear h1 h2
            go_wp2_with fail
            refine (HNa.out _).mono ?_
            rintro e w' ⟨rfl, rfl⟩
            go_wp2_with (go_at_call 12; refine (HNb.out _).mono ?_; rintro e w' ⟨rfl, rfl⟩)
            go_ret
            exact ⟨by rw [HF.out]; rfl, HG.out⟩
          | true =>
            rw [h2] at HNb
            have HS := Lib.hid (HST.out (by rw [h1, h2]; rfl))
            clear h1 h2
            go_wp2_with fail
            refine (HNa.out _).mono ?_
            rintro e w' ⟨rfl, rfl⟩
            go_wp2_with (go_at_call 12; refine (HNb.out _).mono ?_; rintro e w' ⟨rfl, rfl⟩)
            go_roundw
            case rel => exact ⟨k + 1, by omega, by go_num, HS, HG.out⟩
            case measure => simp [intOf]; omega
      · have HF := Lib.hid (HYES.out fun j hj => hn.out j hj (by have := HL.out; omega))
        have HR := Lib.hid (prog_schrise_any B a n c l wr (schs_keep HH.out (fun _ h => h) (hbw.keeps fun j hj => Nat.lt_of_lt_of_le hj hB)) (Nat.le_trans hB hbw.below.size))
        clear hn
        go_wp2_with (go_at_call 110; refine HR.out.mono ?_; rintro e w' ⟨rfl, hg⟩)
        go_ret
        exact ⟨by rw [HF.out]; rfl, hbw.trans hg⟩
  · have i8 : (8 : Int) < (n : Int) := by omega
    have HF := Lib.hid (show schsB l = false by unfold schsB; rw [hl, decide_eq_false h8]; rfl)
    clear h hl
    go_enter Try.func49, Try.ntmps49
    go_wp2_with fail
    go_ret
    exact ⟨by rw [HF.out]; rfl, Gr.refl _⟩
end

section
/-! Layer 7, the program, by contract: tableRight. -/
open Go.RowKit Go.Sort Go.Shelf

set_option maxRecDepth 100000 in
set_option maxHeartbeats 8000000 in
theorem prog_own_any (B : Nat) (t : Tab) (vc vr : Value) (w : World) (hc : Lst w (· < B) colP 3 vc t.cols) (hr : Lst w (· < B) (rulP w (· < B)) 8 vr t.rules) (hB : B ≤ w.heap.size) (hsm : smallT 3000 t) :
    Calls Try.prog 111 #[.agg #[.string t.schema, .string t.name, .string t.owner, vc, vr]] w fun e w' => e = .returned (.bool (ownB t)) ∧ Below w.heap.size w w' := by
  obtain ⟨ca, cc, rfl, hcc, hcm⟩ := hc.form
  obtain ⟨ra, rc, rfl, hrc, hrm⟩ := hr.form
  obtain ⟨cn, hcn⟩ : ∃ n, t.cols.length = n := ⟨_, rfl⟩
  obtain ⟨rn, hrn⟩ : ∃ n, t.rules.length = n := ⟨_, rfl⟩
  unfold maxLen at hcm hrm
  have HCN := Lib.hid hcn; have HRN := Lib.hid hrn
  have HSM := Lib.hid hsm
  rw [hcn] at hc hcc ⊢
  rw [hrn] at hr hrc ⊢
  have hal := Gr.alloc w (.cells #[.string t.schema, .string t.name, .string t.owner, .slice ca cn cc, .slice ra rn rc] 35)
  have hrow := heap_alloc_new w (.cells #[.string t.schema, .string t.name, .string t.owner, .slice ca cn cc, .slice ra rn rc] 35)
  have c1 := box_at hrow 1 rfl
  have c2 := box_at hrow 2 rfl
  have c3 := box_at hrow 3 rfl
  have c4 := box_at hrow 4 rfl
  have hkw : Keeps (· < B) w (w.alloc (.cells #[.string t.schema, .string t.name, .string t.owner, .slice ca cn cc, .slice ra rn rc] 35)) := hal.keeps fun j hj => Nat.lt_of_lt_of_le hj hB
  have HC := Lib.hid (cols_keep hc (fun _ h => h) hkw)
  have HR := Lib.hid (ruls_keep hr (fun _ h => h) hkw)
  have hp : w.heap.size < (w.alloc (.cells #[.string t.schema, .string t.name, .string t.owner, .slice ca cn cc, .slice ra rn rc] 35)).heap.size := by simp
  have HAL := Lib.hid hal.below
  have HROW := Lib.hid hrow
  have HN := Lib.hid prog_name_any
  have HNa := Lib.hid (HN.out t.name); have HNb := Lib.hid (HN.out t.owner)
  have HOWN := Lib.hid (show ownB t = ((nameB t.name && (nameB t.owner && (colsB t.cols && decide (t.rules.length ≤ 8)))) && (t.rules.all (fitsB t.cols) && riseB (fun a b => cmpI a.name b.name) t.rules)) from rfl)
  clear hcn hrn hc hr hal hkw hrow hsm
  go_enter Try.func111, Try.ntmps111
  go_wp2_with fail
  generalize hw1 : World.alloc w _ = w1 at *
  clear hw1
  refine (HNa.out _).mono ?_
  rintro e w' ⟨rfl, rfl⟩
  have hB1 : B ≤ w1.heap.size := Nat.le_trans hB (Nat.le_of_lt hp)
  cases h1 : nameB t.name with
  | false =>
    have HF := Lib.hid (show ownB t = false by rw [HOWN.out, h1]; rfl)
    clear h1
    go_wp2_with fail
    go_ret
    exact ⟨by rw [HF.out]; rfl, HAL.out⟩
  | true =>
    go_wp2_with fail
    refine (HNb.out _).mono ?_
    rintro e w' ⟨rfl, rfl⟩
    cases h2 : nameB t.owner with
    | false =>
      have HF := Lib.hid (show ownB t = false by rw [HOWN.out, h1, h2]; rfl)
      clear h1 h2
      go_wp2_with fail
      go_ret
      exact ⟨by rw [HF.out]; rfl, HAL.out⟩
    | true =>
      go_wp2_with fail
      refine (prog_columns_any ca cn cc B t.cols w1 HC.out hB1).mono ?_
      rintro e w2 ⟨rfl, hg2⟩
      have hb2 := hg2.below
      have HB2 := Lib.hid (HAL.out.trans (hb2.mono HAL.out.size))
      have HROW2 := Lib.hid ((hb2.block _ hp).trans HROW.out)
      have d3 := box_at HROW2.out 3 rfl
      have d4 := box_at HROW2.out 4 rfl
      have HK2 := Lib.hid (Keeps.of_below hb2 fun j hj => Nat.lt_of_lt_of_le hj hB1 : Keeps (· < B) w1 w2)
      have hz2 := hb2.size
      clear hg2 hb2 c1 c2 c3 c4
      cases h3 : colsB t.cols with
      | false =>
        have HF := Lib.hid (show ownB t = false by rw [HOWN.out, h1, h2, h3]; rfl)
        clear h1 h2 h3
        go_wp2_with fail
        go_ret
        exact ⟨by rw [HF.out]; rfl, HB2.out⟩
      | true =>
        by_cases h8 : rn ≤ 8
        · have i8 : ¬ (8 : Int) < (rn : Int) := by omega
          have HYES := Lib.hid (fun (h : ∀ (j : Nat) (hj : j < t.rules.length), fitsB t.cols t.rules[j] = true) => show ownB t = riseB (fun a b => cmpI a.name b.name) t.rules by
            rw [HOWN.out, h1, h2, h3, HRN.out, decide_eq_true h8, all_at (p := fitsB t.cols) h]; rfl)
          have HNO := Lib.hid (fun (j : Nat) (hj : j < t.rules.length) (h : fitsB t.cols t.rules[j] = false) => show ownB t = false by rw [HOWN.out, all_no (p := fitsB t.cols) hj h]; simp)
          clear h1 h2 h3
          go_wp2_with fail
          go_loopw [4, 30] (fun _ i wr => ∃ k : Nat, k ≤ rn ∧ i = .int .i64 k ∧ Hid (∀ j (hj : j < t.rules.length), j < k → fitsB t.cols t.rules[j] = true) ∧ Hid (Below w2.heap.size w2 wr)) (fun _ i _ => rn - (intOf i).toNat)
          case atStart => exact ⟨0, Nat.zero_le _, rfl, Lib.hid (fun _ _ h => by omega), Lib.hid (Below.refl _ _)⟩
          case round =>
            obtain ⟨k, hk, rfl, hn, HBR⟩ := hrel
            have f3 := cell_on HBR.out d3
            have f4 := cell_on HBR.out d4
            have hzr := HBR.out.size
            have HKR := Lib.hid (HK2.out.trans (Keeps.of_below HBR.out fun j hj => by omega) : Keeps (· < B) w1 wr)
            have HBW := Lib.hid (HB2.out.trans (HBR.out.mono HB2.out.size))
            by_cases hlt : k < rn
            · have lk : k < t.rules.length := by rw [HRN.out]; exact hlt
              obtain ⟨b, o, x, rfl, hbB, hx, hcl⟩ := HR.out.at lk
              have HNOk := Lib.hid (HNO.out k lk)
              have HST := Lib.hid (fun (h : fitsB t.cols t.rules[k] = true) => show ∀ j (hj : j < t.rules.length), j < k + 1 → fitsB t.cols t.rules[j] = true from fun j hj hjk => by
                by_cases e : j = k
                · subst e; exact h
                · exact hn.out j hj (by omega))
              have HSR := Lib.hid (HSM.out.2.2 k lk)
              have k0 : (0 : Int) ≤ (k : Int) := by omega
              have k1 : (k : Int) < (rn : Int) := by omega
              generalize t.rules[k] = y at *
              obtain ⟨v, rfl, hv⟩ := hx
              obtain ⟨va, vcp, rfl, _, _⟩ := hv.form
              have r0 := HKR.out.cell (p := ⟨b, o + k * 8, none⟩) (hcl 0 _ rfl) hbB
              have r1 := HKR.out.cell (p := ⟨b, o + k * 8 + 1, none⟩) (hcl 1 _ rfl) hbB
              have r2 := HKR.out.cell (p := ⟨b, o + k * 8 + 2, none⟩) (hcl 2 _ rfl) hbB
              have r3 := HKR.out.cell (p := ⟨b, o + k * 8 + 3, none⟩) (hcl 3 _ rfl) hbB
              have r4 := HKR.out.cell (p := ⟨b, o + k * 8 + 4, none⟩) (hcl 4 _ rfl) hbB
              have r5 := HKR.out.cell (p := ⟨b, o + k * 8 + 5, none⟩) (hcl 5 _ rfl) hbB
              have r6 := HKR.out.cell (p := ⟨b, o + k * 8 + 6, none⟩) (hcl 6 _ rfl) hbB
              have r7 := HKR.out.cell (p := ⟨b, o + k * 8 + 7, none⟩) (hcl 7 _ rfl) hbB
              have hal2 := (Gr.alloc wr (.cells #[.string y.name, .int .i64 y.kind, .slice va y.cols.length vcp, .int .i64 y.low, .int .i64 y.high, .string y.schema, .string y.table, .string y.key] 56)).below
              have HKA := Lib.hid (HKR.out.alloc (.cells #[.string y.name, .int .i64 y.kind, .slice va y.cols.length vcp, .int .i64 y.low, .int .i64 y.high, .string y.schema, .string y.table, .string y.key] 56))
              have HFI := Lib.hid (prog_fits_any ca cn cc B t.cols y _ _ (cols_keep HC.out (fun _ h => h) HKA.out) (strs_keep hv (fun _ h => h) HKA.out) (Nat.le_trans hB1 HKA.out.size) HSR.out)
              have HA2 := Lib.hid hal2
              have g3 := cell_on hal2 f3
              clear hcl hal2 hn
              cases hf : fitsB t.cols y with
              | false =>
                rw [hf] at HFI
                have HF := Lib.hid (HNOk.out hf)
                clear hf
                go_wp2_with (go_at_call 96; refine HFI.out.mono ?_; rintro e w5 ⟨rfl, hb5⟩)
                go_ret
                exact ⟨by rw [HF.out]; rfl, HBW.out.trans ((HA2.out.trans (hb5.mono HA2.out.size)).mono HBW.out.size)⟩
              | true =>
                rw [hf] at HFI
                have HS := Lib.hid (HST.out hf)
                clear hf
                go_wp2_with (go_at_call 96; refine HFI.out.mono ?_; rintro e w5 ⟨rfl, hb5⟩)
                go_roundw
                case rel => exact ⟨k + 1, by omega, by go_num, HS, Lib.hid (HBR.out.trans ((HA2.out.trans (hb5.mono HA2.out.size)).mono HBR.out.size))⟩
                case measure => simp [intOf]; omega
            · have HF := Lib.hid (HYES.out fun j hj => hn.out j hj (by have := HRN.out; omega))
              have HRI := Lib.hid (prog_rulrise_any B ra rn rc t.rules wr (ruls_keep HR.out (fun _ h => h) HKR.out) (Nat.le_trans hB1 HKR.out.size))
              clear hn
              go_wp2_with (go_at_call 137; refine HRI.out.mono ?_; rintro e w5 ⟨rfl, hg5⟩)
              go_ret
              exact ⟨by rw [HF.out]; rfl, HBW.out.trans (hg5.below.mono HBW.out.size)⟩
        · have i8 : (8 : Int) < (rn : Int) := by omega
          have HF := Lib.hid (show ownB t = false by rw [HOWN.out, HRN.out, decide_eq_false h8]; simp)
          clear h1 h2 h3
          go_wp2_with fail
          go_ret
          exact ⟨by rw [HF.out]; rfl, HB2.out⟩
end

section
/-! Layer 7, the program, by contract: tablesRight, Check. -/
open Go.RowKit Go.Sort Go.Shelf

def tabsB (o : Objs) : Bool := o.tables.all (fun t => decide (0 ≤ schI o.schemas t.schema) && ownB t) && (o.schemas.all (fun s => decide (tabN o.tables s.name ≤ 8)) && riseB tabOrd o.tables)
def chkB (o : Objs) : Bool := schsB o.schemas && (tabsB o && keysB o.tables)
def chkE (o : Objs) : Int := if chkB o = true then 0 else 63

set_option maxRecDepth 100000 in
set_option maxHeartbeats 8000000 in
theorem prog_tabs_any (B : Nat) (o : Objs) (vs vt : Value) (w : World) (ho : objP w (· < B) [vs, vt] o) (hB : B ≤ w.heap.size) (hsm : smallO 3000 o) :
    Calls Try.prog 50 #[.agg #[vs, vt]] w fun e w' => e = .returned (.bool (tabsB o)) ∧ Below w.heap.size w w' := by
  have HO := Lib.hid ho
  obtain ⟨_, _, hv, hss, hts⟩ := ho
  simp only [List.cons.injEq, and_true] at hv
  obtain ⟨rfl, rfl⟩ := hv
  obtain ⟨ta, tc, rfl, htc, htm⟩ := hts.form
  obtain ⟨sa, sc, rfl, hsc, hsm2⟩ := hss.form
  obtain ⟨sn, hsn⟩ : ∃ n, o.schemas.length = n := ⟨_, rfl⟩
  obtain ⟨tn, htn⟩ : ∃ n, o.tables.length = n := ⟨_, rfl⟩
  unfold maxLen at htm hsm2
  have HSN := Lib.hid hsn; have HTN := Lib.hid htn; have HSM := Lib.hid hsm
  rw [hsn] at hss hsc HO ⊢
  rw [htn] at hts htc HO ⊢
  have hal := Gr.alloc w (.cells #[.slice sa sn sc, .slice ta tn tc] 26)
  have HROW := Lib.hid (heap_alloc_new w (.cells #[.slice sa sn sc, .slice ta tn tc] 26))
  have hp : w.heap.size < (w.alloc (.cells #[.slice sa sn sc, .slice ta tn tc] 26)).heap.size := by simp
  have HAL := Lib.hid hal.below
  have HSS := Lib.hid hss; have HTS := Lib.hid hts
  have HNO := Lib.hid (fun (j : Nat) (hj : j < o.tables.length) (h : (decide (0 ≤ schI o.schemas o.tables[j].schema) && ownB o.tables[j]) = false) => show tabsB o = false by
    unfold tabsB; rw [all_no (p := fun t : Tab => decide (0 ≤ schI o.schemas t.schema) && ownB t) hj h]; rfl)
  have HYES := Lib.hid (fun (h : ∀ (j : Nat) (hj : j < o.tables.length), (decide (0 ≤ schI o.schemas o.tables[j].schema) && ownB o.tables[j]) = true) => show tabsB o = (o.schemas.all (fun s => decide (tabN o.tables s.name ≤ 8)) && riseB tabOrd o.tables) by
    unfold tabsB; rw [all_at (p := fun t : Tab => decide (0 ≤ schI o.schemas t.schema) && ownB t) h]; rfl)
  clear hal hss hts hsn htn hsm
  go_enter Try.func50, Try.ntmps50
  go_wp2_with fail
  generalize hw1 : World.alloc w _ = w1 at *
  clear hw1
  have HK1 := Lib.hid (Keeps.of_below HAL.out fun j hj => Nat.lt_of_lt_of_le hj hB : Keeps (· < B) w w1)
  have hB1 : B ≤ w1.heap.size := Nat.le_trans hB (Nat.le_of_lt hp)
  have c0 := box_at HROW.out 0 rfl
  have c1 := box_at HROW.out 1 rfl
  go_loopw [4, 10] (fun _ i wr => ∃ k : Nat, k ≤ tn ∧ i = .int .i64 k ∧ Hid (∀ j (hj : j < o.tables.length), j < k → (decide (0 ≤ schI o.schemas o.tables[j].schema) && ownB o.tables[j]) = true) ∧ Hid (Below w1.heap.size w1 wr)) (fun _ i _ => tn - (intOf i).toNat)
  case atStart => exact ⟨0, Nat.zero_le _, rfl, Lib.hid (fun _ _ h => by omega), Lib.hid (Below.refl _ _)⟩
  case round =>
    obtain ⟨k, hk, rfl, hn, HBR⟩ := hrel
    have f0 := cell_on HBR.out c0
    have f1 := cell_on HBR.out c1
    have hzr := HBR.out.size
    have HKR := Lib.hid (HK1.out.trans (Keeps.of_below HBR.out fun j hj => by omega) : Keeps (· < B) w wr)
    have HBW := Lib.hid (HAL.out.trans (HBR.out.mono HAL.out.size))
    by_cases hlt : k < tn
    · have lk : k < o.tables.length := by rw [HTN.out]; exact hlt
      obtain ⟨b, of, x, rfl, hbB, hx, hcl⟩ := HTS.out.at lk
      have HNOk := Lib.hid (HNO.out k lk)
      have HST := Lib.hid (fun (h : (decide (0 ≤ schI o.schemas o.tables[k].schema) && ownB o.tables[k]) = true) => show ∀ j (hj : j < o.tables.length), j < k + 1 → (decide (0 ≤ schI o.schemas o.tables[j].schema) && ownB o.tables[j]) = true from fun j hj hjk => by
        by_cases e : j = k
        · subst e; exact h
        · exact hn.out j hj (by omega))
      have HST2 := Lib.hid (HSM.out.2.2 k lk)
      have k0 : (0 : Int) ≤ (k : Int) := by omega
      have k1 : (k : Int) < (tn : Int) := by omega
      generalize o.tables[k] = t at *
      obtain ⟨vc, vr, rfl, hvc, hvr⟩ := hx
      obtain ⟨ca, cc, rfl, _, _⟩ := hvc.form
      obtain ⟨ra, rc, rfl, _, _⟩ := hvr.form
      have r0 := HKR.out.cell (p := ⟨b, of + k * 5, none⟩) (hcl 0 _ rfl) hbB
      have r1 := HKR.out.cell (p := ⟨b, of + k * 5 + 1, none⟩) (hcl 1 _ rfl) hbB
      have r2 := HKR.out.cell (p := ⟨b, of + k * 5 + 2, none⟩) (hcl 2 _ rfl) hbB
      have r3 := HKR.out.cell (p := ⟨b, of + k * 5 + 3, none⟩) (hcl 3 _ rfl) hbB
      have r4 := HKR.out.cell (p := ⟨b, of + k * 5 + 4, none⟩) (hcl 4 _ rfl) hbB
      have hal2 := (Gr.alloc wr (.cells #[.string t.schema, .string t.name, .string t.owner, .slice ca t.cols.length cc, .slice ra t.rules.length rc] 35)).below
      have HKA := Lib.hid (HKR.out.alloc (.cells #[.string t.schema, .string t.name, .string t.owner, .slice ca t.cols.length cc, .slice ra t.rules.length rc] 35))
      have HRT := Lib.hid (heap_alloc_new wr (.cells #[.string t.schema, .string t.name, .string t.owner, .slice ca t.cols.length cc, .slice ra t.rules.length rc] 35))
      have HA2 := Lib.hid hal2
      have g0 := cell_on hal2 f0
      have hge := idxI_ge (fun x : Sch => eqT x.name t.schema) o.schemas
      have hge' : -1 ≤ schI o.schemas t.schema := hge
      clear hcl hal2 hn hge
      go_wp2_with fail
      generalize World.alloc wr _ = w3 at *
      refine (prog_schplace_any B sa sn sc o.schemas t.schema w3 (schs_keep HSS.out (fun _ h => h) HKA.out) (Nat.le_trans hB HKA.out.size)).mono ?_
      rintro e w4 ⟨rfl, hg4⟩
      have HB4 := Lib.hid (HA2.out.trans (hg4.below.mono HA2.out.size))
      have HK4 := Lib.hid (HKA.out.trans (hg4.keeps fun j hj => Nat.lt_of_lt_of_le hj (Nat.le_trans hB HKA.out.size)) : Keeps (· < B) w w4)
      have HR4 := Lib.hid ((hg4.below.block _ (lt_of_block HRT.out)).trans HRT.out)
      have t0 := box_at HR4.out 0 rfl
      have t1 := box_at HR4.out 1 rfl
      have t2 := box_at HR4.out 2 rfl
      have t3 := box_at HR4.out 3 rfl
      have t4 := box_at HR4.out 4 rfl
      clear hg4 r0 r1 r2 r3 r4 f0 f1 g0
      by_cases hq : schI o.schemas t.schema < 0
      · have HF := Lib.hid (HNOk.out (by rw [decide_eq_false (by omega)]; rfl))
        have e1 : schI o.schemas t.schema = -1 := by omega
        rw [e1]
        clear hq e1 hge'
        go_wp2_with fail
        go_ret
        exact ⟨by rw [HF.out]; rfl, HBW.out.trans (HB4.out.mono HBW.out.size)⟩
      · obtain ⟨q, hqe⟩ : ∃ q : Nat, schI o.schemas t.schema = q := ⟨(schI o.schemas t.schema).toNat, by omega⟩
        have e1 : ((q : Int) == -1) = false := by rw [beq_eq_false_iff_ne]; omega
        rw [hqe]
        have hqd : decide (0 ≤ schI o.schemas t.schema) = true := decide_eq_true (by omega)
        rw [hqd] at HNOk HST
        have HOW := Lib.hid (prog_own_any B t _ _ w4 (cols_keep hvc (fun _ h => h) HK4.out) (ruls_keep hvr (fun _ h => h) HK4.out) (Nat.le_trans hB HK4.out.size) HST2.out)
        clear hq hqe hqd hge'
        cases hf : ownB t with
        | false =>
          rw [hf] at HOW HNOk
          have HF := Lib.hid (HNOk.out rfl)
          clear hf
          go_wp2_with (go_at_call 111; refine HOW.out.mono ?_; rintro e w5 ⟨rfl, hb5⟩)
          go_ret
          exact ⟨by rw [HF.out]; rfl, HBW.out.trans ((HB4.out.trans (hb5.mono HB4.out.size)).mono HBW.out.size)⟩
        | true =>
          rw [hf] at HOW HST
          have HS := Lib.hid (HST.out rfl)
          clear hf
          go_wp2_with (go_at_call 111; refine HOW.out.mono ?_; rintro e w5 ⟨rfl, hb5⟩)
          go_roundw
          case rel => exact ⟨k + 1, by omega, by go_num, HS, Lib.hid (HBR.out.trans ((HB4.out.trans (hb5.mono HB4.out.size)).mono HBR.out.size))⟩
          case measure => simp [intOf]; omega
    · have HY := Lib.hid (HYES.out fun j hj => hn.out j hj (by have := HTN.out; omega))
      have HNO2 := Lib.hid (fun (j : Nat) (hj : j < o.schemas.length) (h : ¬ tabN o.tables o.schemas[j].name ≤ 8) => show tabsB o = false by
        rw [HY.out, all_no (p := fun s : Sch => decide (tabN o.tables s.name ≤ 8)) hj (decide_eq_false h)]; rfl)
      have HYES2 := Lib.hid (fun (h : ∀ (j : Nat) (hj : j < o.schemas.length), decide (tabN o.tables o.schemas[j].name ≤ 8) = true) => show tabsB o = riseB tabOrd o.tables by
        rw [HY.out, all_at (p := fun s : Sch => decide (tabN o.tables s.name ≤ 8)) h]; rfl)
      clear hn
      go_wp2_with fail
      clear f0 f1
      generalize wr = w2 at *
      go_loopw [6, 29] (fun _ i wr => ∃ k : Nat, k ≤ sn ∧ i = .int .i64 k ∧ Hid (∀ j (hj : j < o.schemas.length), j < k → decide (tabN o.tables o.schemas[j].name ≤ 8) = true) ∧ Hid (Below w1.heap.size w1 wr)) (fun _ i _ => sn - (intOf i).toNat)
      case atStart => exact ⟨0, Nat.zero_le _, rfl, Lib.hid (fun _ _ h => by omega), HBR⟩
      case round =>
        clear HBR HKR HBW hzr
        obtain ⟨i, hi, rfl, hn, HBR⟩ := hrel
        have f0 := cell_on HBR.out c0
        have f1 := cell_on HBR.out c1
        have hzr := HBR.out.size
        have HKR := Lib.hid (HK1.out.trans (Keeps.of_below HBR.out fun j hj => by omega) : Keeps (· < B) w wr)
        have HBW := Lib.hid (HAL.out.trans (HBR.out.mono HAL.out.size))
        by_cases hli : i < sn
        · have li : i < o.schemas.length := by rw [HSN.out]; exact hli
          obtain ⟨b, of, x, rfl, hbB, hx, hcl⟩ := HSS.out.at li
          have HNOk := Lib.hid (HNO2.out i li)
          have HST := Lib.hid (fun (h : decide (tabN o.tables o.schemas[i].name ≤ 8) = true) => show ∀ j (hj : j < o.schemas.length), j < i + 1 → decide (tabN o.tables o.schemas[j].name ≤ 8) = true from fun j hj hjk => by
            by_cases e : j = i
            · subst e; exact h
            · exact hn.out j hj (by omega))
          have k0 : (0 : Int) ≤ (i : Int) := by omega
          have k1 : (i : Int) < (sn : Int) := by omega
          generalize o.schemas[i] = s at *
          obtain rfl : x = [.string s.name, .string s.owner] := hx
          have r0 := HKR.out.cell (p := ⟨b, of + i * 2, none⟩) (hcl 0 _ rfl) hbB
          have r1 := HKR.out.cell (p := ⟨b, of + i * 2 + 1, none⟩) (hcl 1 _ rfl) hbB
          have hal2 := (Gr.alloc wr (.cells #[.string s.name, .string s.owner] 75)).below
          have HKA := Lib.hid (HKR.out.alloc (.cells #[.string s.name, .string s.owner] 75))
          have HA2 := Lib.hid hal2
          have g0 := cell_on hal2 f0
          have g1 := cell_on hal2 f1
          have HCT := Lib.hid (prog_count_any B o _ _ s.name _ (obj_keep HO.out (fun _ h => h) HKA.out) (Nat.le_trans hB HKA.out.size))
          clear hcl hal2 hn
          by_cases h8 : tabN o.tables s.name ≤ 8
          · have i8 : ¬ (8 : Int) < ((tabN o.tables s.name : Nat) : Int) := by omega
            have HS := Lib.hid (HST.out (decide_eq_true h8))
            clear h8
            go_wp2_with (go_at_call 69; refine HCT.out.mono ?_; rintro e w5 ⟨rfl, hb5⟩)
            go_roundw
            case rel => exact ⟨i + 1, by omega, by go_num, HS, Lib.hid (HBR.out.trans ((HA2.out.trans (hb5.mono HA2.out.size)).mono HBR.out.size))⟩
            case measure => simp [intOf]; omega
          · have i8 : (8 : Int) < ((tabN o.tables s.name : Nat) : Int) := by omega
            have HF := Lib.hid (HNOk.out h8)
            clear h8
            go_wp2_with (go_at_call 69; refine HCT.out.mono ?_; rintro e w5 ⟨rfl, hb5⟩)
            go_ret
            exact ⟨by rw [HF.out]; rfl, HBW.out.trans ((HA2.out.trans (hb5.mono HA2.out.size)).mono HBW.out.size)⟩
        · have HF := Lib.hid (HYES2.out fun j hj => hn.out j hj (by have := HSN.out; omega))
          have HRI := Lib.hid (prog_tabrise_any B ta tn tc o.tables wr (tabs_keep HTS.out (fun _ h => h) HKR.out) (Nat.le_trans hB HKR.out.size))
          clear hn
          go_wp2_with (go_at_call 112; refine HRI.out.mono ?_; rintro e w5 ⟨rfl, hg5⟩)
          go_ret
          exact ⟨by rw [HF.out]; rfl, HBW.out.trans (hg5.below.mono HBW.out.size)⟩

set_option maxRecDepth 100000 in
set_option maxHeartbeats 8000000 in
theorem prog_chk_any (B : Nat) (o : Objs) (vs vt : Value) (w : World) (ho : objP w (· < B) [vs, vt] o) (hB : B ≤ w.heap.size) (hsm : smallO 3000 o) :
    Calls Try.prog 16 #[.agg #[vs, vt]] w fun e w' => e = .returned (.int .i64 (chkE o)) ∧ Below w.heap.size w w' := by
  have HO := Lib.hid ho
  obtain ⟨_, _, hv, hss, hts⟩ := ho
  simp only [List.cons.injEq, and_true] at hv
  obtain ⟨rfl, rfl⟩ := hv
  obtain ⟨ta, tc, rfl, htc, htm⟩ := hts.form
  obtain ⟨sa, sc, rfl, hsc, hsm2⟩ := hss.form
  have hal := (Gr.alloc w (.cells #[.slice sa o.schemas.length sc, .slice ta o.tables.length tc] 26)).below
  have HROW := Lib.hid (heap_alloc_new w (.cells #[.slice sa o.schemas.length sc, .slice ta o.tables.length tc] 26))
  have HAL := Lib.hid hal
  have hp : w.heap.size < (w.alloc (.cells #[.slice sa o.schemas.length sc, .slice ta o.tables.length tc] 26)).heap.size := by simp
  have HSS := Lib.hid hss; have HSM := Lib.hid hsm
  have HCK := Lib.hid (show chkB o = (schsB o.schemas && (tabsB o && keysB o.tables)) from rfl)
  clear hal hss hts hsc htc hsm hsm2 htm
  go_enter Try.func16, Try.ntmps16
  go_wp2_with fail
  generalize hw1 : World.alloc w _ = w1 at *
  clear hw1
  have HK1 := Lib.hid (Keeps.of_below HAL.out fun j hj => Nat.lt_of_lt_of_le hj hB : Keeps (· < B) w w1)
  have hB1 : B ≤ w1.heap.size := Nat.le_trans hB (Nat.le_of_lt hp)
  refine (prog_schs_any sa o.schemas.length sc B o.schemas w1 (schs_keep HSS.out (fun _ h => h) HK1.out) hB1).mono ?_
  rintro e w2 ⟨rfl, hg2⟩
  have hb2 := hg2.below
  have HB2 := Lib.hid (HAL.out.trans (hb2.mono HAL.out.size))
  have HK2 := Lib.hid (HK1.out.trans (Keeps.of_below hb2 fun j hj => by omega) : Keeps (· < B) w w2)
  have HR2 := Lib.hid ((hb2.block _ hp).trans HROW.out)
  have c0 := box_at HR2.out 0 rfl
  have c1 := box_at HR2.out 1 rfl
  have hz2 := hb2.size
  clear hg2 hb2
  cases h1 : schsB o.schemas with
  | false =>
    have HF := Lib.hid (show chkE o = 63 by unfold chkE; rw [HCK.out, h1]; rfl)
    clear h1
    go_wp2_with fail
    go_ret
    exact ⟨by rw [HF.out]; rfl, HB2.out⟩
  | true =>
    go_wp2_with fail
    refine (prog_tabs_any B o _ _ w2 (obj_keep HO.out (fun _ h => h) HK2.out) (Nat.le_trans hB HK2.out.size) HSM.out).mono ?_
    rintro e w3 ⟨rfl, hb3⟩
    have HB3 := Lib.hid (HB2.out.trans (hb3.mono HB2.out.size))
    have HK3 := Lib.hid (HK2.out.trans (Keeps.of_below hb3 fun j hj => by omega) : Keeps (· < B) w w3)
    have HR3 := Lib.hid ((hb3.block _ (lt_of_block HR2.out)).trans HR2.out)
    clear c0 c1
    have c0 := box_at HR3.out 0 rfl
    have c1 := box_at HR3.out 1 rfl
    clear hb3
    cases h2 : tabsB o with
    | false =>
      have HF := Lib.hid (show chkE o = 63 by unfold chkE; rw [HCK.out, h1, h2]; rfl)
      clear h1 h2
      go_wp2_with fail
      go_ret
      exact ⟨by rw [HF.out]; rfl, HB3.out⟩
    | true =>
      go_wp2_with fail
      refine (prog_keys_any B o _ _ w3 (obj_keep HO.out (fun _ h => h) HK3.out) (Nat.le_trans hB HK3.out.size) HSM.out).mono ?_
      rintro e w4 ⟨rfl, hb4⟩
      have HB4 := Lib.hid (HB3.out.trans (hb4.mono HB3.out.size))
      clear hb4
      cases h3 : keysB o.tables with
      | false =>
        have HF := Lib.hid (show chkE o = 63 by unfold chkE; rw [HCK.out, h1, h2, h3]; rfl)
        clear h1 h2 h3
        go_wp2_with fail
        go_ret
        exact ⟨by rw [HF.out]; rfl, HB4.out⟩
      | true =>
        have HF := Lib.hid (show chkE o = 0 by unfold chkE; rw [HCK.out, h1, h2, h3]; rfl)
        clear h1 h2 h3
        go_wp2_with fail
        go_ret
        exact ⟨by rw [HF.out]; rfl, HB4.out⟩
end

section
/-! Layer 7: what the program's Check asks is what the document asks (mathematics). -/
open Go.RowKit Go.Sort Go.Shelf

theorem getD_at {α : Type} {l : List α} {d : α} {i : Nat} (h : i < l.length) : l.getD i d = l[i] := by simp [List.getD, List.getElem?_eq_getElem h]
theorem fits_all {l : List Col} {r : Rul} (h : fitsB l r = true) : (List.range r.cols.length).all (fitAt l r.cols) = true := by
  unfold fitsB at h
  simp only [Bool.and_eq_true] at h
  exact h.1.1
theorem kindsL_fit {l : List Col} {ns : List ByteArray} (h : (List.range ns.length).all (fitAt l ns) = true) : kindsL l ns = ns.map fun s => kindAt l (colI l s) := by unfold kindsL; rw [if_pos h]
theorem fit_col {l : List Col} {ns : List ByteArray} (h : (List.range ns.length).all (fitAt l ns) = true) {i : Nat} (hi : i < ns.length) : 0 ≤ colI l ns[i] := by
  have := all_range.1 h i hi
  rw [fitAt_get hi] at this
  simp only [Bool.and_eq_true, decide_eq_true_eq] at this
  exact this.1
theorem eqL_pairs {l m : List Col} {n there : List ByteArray} (h1 : (List.range n.length).all (fitAt l n) = true) (h2 : (List.range there.length).all (fitAt m there) = true) :
    eqL (kindsL l n) (kindsL m there) = (decide (there.length = n.length) && (List.range there.length).all (pairAt l m n there)) := by
  rw [kindsL_fit h1, kindsL_fit h2]
  unfold eqL
  by_cases hl : there.length = n.length
  · rw [decide_eq_true hl, Bool.true_and]
    by_cases hp : (List.range there.length).all (pairAt l m n there) = true
    · rw [hp, decide_eq_true_eq]
      refine List.ext_getElem (by simp [hl]) fun i hi1 hi2 => ?_
      rw [List.length_map] at hi1 hi2
      have := all_range.1 hp i (by omega)
      unfold pairAt at this
      simp only [Bool.and_eq_true, decide_eq_true_eq] at this
      have e := this.2.2
      rw [getD_at hi1, getD_at hi2] at e
      simpa using e
    · rw [show (List.range there.length).all (pairAt l m n there) = false by simpa using hp, decide_eq_false_iff_not]
      intro e
      apply hp
      refine all_range.2 fun i hi => ?_
      have hi1 : i < n.length := by omega
      unfold pairAt
      rw [getD_at hi1, getD_at hi]
      simp only [Bool.and_eq_true, decide_eq_true_eq]
      refine ⟨fit_col h1 hi1, fit_col h2 hi, ?_⟩
      have := congrArg (fun q => q[i]?) e
      simpa [hi1, hi] using this
  · rw [decide_eq_false hl, Bool.false_and, decide_eq_false_iff_not]
    intro e
    have := congrArg List.length e
    simp at this
    omega
theorem ckE_keyE {ts : List Tab} {l : List Col} {r : Rul} (h1 : fitsB l r = true) (h2 : ∀ t ∈ ts, ∀ k ∈ t.rules, fitsB t.cols k = true) : ckE ts l r = keyE ts l r := by
  unfold ckE keyE
  by_cases hq : tabI ts r.schema r.table < 0
  · rw [if_pos hq]
    split
    · rfl
    · rw [if_pos hq]
  · rw [if_neg hq]
    cases ht : ts[(tabI ts r.schema r.table).toNat]? with
    | none => rfl
    | some t =>
      simp only
      rw [if_neg hq]
      by_cases hy : rulI t.rules r.key < 0
      · rw [if_pos hy]
        split
        · rfl
        · rw [if_pos hy]
      · rw [if_neg hy]
        cases hk : t.rules[(rulI t.rules r.key).toNat]? with
        | none => rfl
        | some k =>
          simp only
          rw [if_neg hy]
          by_cases h4 : k.kind ≠ 2
          · rw [if_pos h4, if_pos h4]
          · rw [if_neg h4, if_neg h4, eqL_pairs (fits_all h1) (fits_all (h2 t (List.mem_of_getElem? ht) k (List.mem_of_getElem? hk)))]
            by_cases hl : k.cols.length = r.cols.length
            · rw [decide_eq_true hl, Bool.true_and]
              conv => rhs; rw [if_neg (show ¬ (k.cols.length ≠ r.cols.length) from fun h => h hl)]
            · rw [decide_eq_false hl, Bool.false_and, if_pos hl]; rfl
theorem rise_iff {α : Type} {ord : α → α → Int} {lt : α → α → Bool} (ho : ∀ a b, ord a b < 0 ↔ lt a b = true) (tr : ∀ {a b c : α}, lt a b = true → lt b c = true → lt a c = true) {l : List α} : riseB ord l = true ↔ l.Pairwise fun a b => lt a b = true := by
  rw [pairwise_adj (R := fun a b => lt a b = true) tr]
  unfold riseB
  rw [all_range]
  constructor
  · intro h k hk
    have := h k (by omega)
    rw [riseK_get hk, decide_eq_true_eq, ho] at this
    exact this
  · intro h k hk
    rw [riseK_get (by omega), decide_eq_true_eq, ho]
    exact h k (by omega)
theorem tabN_cons (t : Tab) (ts : List Tab) (s : ByteArray) : tabN (t :: ts) s = tabN ts s + if eqT t.schema s = true then 1 else 0 := by
  unfold tabN
  rw [List.filter_cons]
  split <;> simp [*]
theorem sum_more {α : Type} (f g : α → Nat) (p : α → Prop) [DecidablePred p] : ∀ {l : List α}, (∀ x, g x = f x + if p x then 1 else 0) → (∃ x ∈ l, p x) → (l.map f).sum + 1 ≤ (l.map g).sum
  | [], _, h => by obtain ⟨x, hx, _⟩ := h; cases hx
  | x :: r, hg, h => by
    have hle : ∀ q : List α, (q.map f).sum ≤ (q.map g).sum := fun q => by
      induction q with
      | nil => simp
      | cons y q ih => simp only [List.map_cons, List.sum_cons]; have := hg y; omega
    simp only [List.map_cons, List.sum_cons]
    by_cases hp : p x
    · have := hg x
      rw [if_pos hp] at this
      have := hle r
      omega
    · obtain ⟨y, hy, hpy⟩ := h
      have hyr : y ∈ r := (List.mem_cons.1 hy).elim (fun e => absurd (e ▸ hpy) hp) id
      have ih := sum_more f g p (l := r) hg ⟨y, hyr, hpy⟩
      have := hg x
      omega
theorem tabs_count (ss : List Sch) : ∀ ts : List Tab, (∀ t ∈ ts, ∃ s ∈ ss, s.name = t.schema) → ts.length ≤ (ss.map fun s => tabN ts s.name).sum
  | [], _ => by simp
  | t :: ts, h => by
    have ih := tabs_count ss ts fun x hx => h x (List.mem_cons_of_mem _ hx)
    obtain ⟨s, hs, he⟩ := h t (List.mem_cons_self ..)
    have := sum_more (fun s : Sch => tabN ts s.name) (fun s : Sch => tabN (t :: ts) s.name) (fun s : Sch => eqT t.schema s.name = true) (l := ss) (fun s => tabN_cons t ts s.name) ⟨s, hs, eqT_iff.2 he.symm⟩
    rw [List.length_cons]
    omega
theorem sum_le {α : Type} (f : α → Nat) (n : Nat) : ∀ {l : List α}, (∀ x ∈ l, f x ≤ n) → (l.map f).sum ≤ l.length * n
  | [], _ => by simp
  | x :: r, h => by
    have := sum_le f n (l := r) fun y hy => h y (List.mem_cons_of_mem _ hy)
    have := h x (List.mem_cons_self ..)
    simp only [List.map_cons, List.sum_cons, List.length_cons, Nat.succ_mul]
    omega
theorem chk_iff {o : Objs} : chkB o = true ↔ RightP o := by
  have hso : ∀ a b : Sch, cmpI a.name b.name < 0 ↔ ltS a b = true := fun a b => cmpI_lt
  have hro : ∀ a b : Rul, cmpI a.name b.name < 0 ↔ ltR a b = true := fun a b => cmpI_lt
  have hst : ∀ {a b c : Sch}, ltS a b = true → ltS b c = true → ltS a c = true := fun h g => ltT_trans h g
  have hrt : ∀ {a b c : Rul}, ltR a b = true → ltR b c = true → ltR a c = true := fun h g => ltT_trans h g
  have hto : riseB tabOrd o.tables = true ↔ o.tables.Pairwise fun a b => ahead a b = true := rise_iff (ord := tabOrd) (lt := ahead) (fun a b => tabOrd_lt (a := a) (b := b)) (fun {a b c} h g => ahead_trans (a := a) (b := b) (c := c) h g)
  unfold chkB schsB tabsB keysB ownB
  simp only [Bool.and_eq_true, decide_eq_true_eq, List.all_eq_true, rise_iff hso hst, rise_iff hro hrt, hto, cols_iff, schI_iff, Bool.or_eq_true]
  constructor
  · rintro ⟨⟨h1, h2, h3⟩, ⟨h4, h5, h6⟩, h7⟩
    have hfit : ∀ t ∈ o.tables, ∀ k ∈ t.rules, fitsB t.cols k = true := fun t ht => (h4 t ht).2.2.1
    refine ⟨h1, fun s hs => ⟨(h2 s hs).1, (h2 s hs).2, h5 s hs⟩, h3, ?_, h6, fun t ht => ?_⟩
    · have e1 := tabs_count o.schemas o.tables fun t ht => (h4 t ht).1
      have e2 := sum_le (fun s : Sch => tabN o.tables s.name) 8 (l := o.schemas) fun s hs => h5 s hs
      omega
    · obtain ⟨g1, ⟨g2, g3, g4, g5⟩, g6, g7⟩ := h4 t ht
      refine ⟨g1, g2, g3, g4, g5, g7, g6, fun r hr hk => ?_⟩
      rw [← keyE_iff, ← ckE_keyE (g6 r hr) hfit]
      rcases h7 t ht r hr with h | h
      · exact absurd hk h
      · exact h
  · rintro ⟨h1, h2, h3, h4, h5, h6⟩
    have hfit : ∀ t ∈ o.tables, ∀ k ∈ t.rules, fitsB t.cols k = true := fun t ht => (h6 t ht).fits
    refine ⟨⟨h1, fun s hs => ⟨(h2 s hs).1, (h2 s hs).2.1⟩, h3⟩, ⟨fun t ht => ?_, fun s hs => (h2 s hs).2.2, h5⟩, fun t ht r hr => ?_⟩
    · have g := h6 t ht
      exact ⟨g.there, ⟨g.name, g.owner, g.cols, g.r8⟩, g.fits, g.rrise⟩
    · by_cases hk : r.kind = 4
      · refine .inr ?_
        rw [ckE_keyE ((h6 t ht).fits r hr) hfit, keyE_iff]
        exact (h6 t ht).key r hr hk
      · exact .inl hk
theorem chkB_right (o : Objs) : chkB o = rightB o := by
  cases h : rightB o with
  | true => exact chk_iff.2 (right_iff.1 h)
  | false =>
    rw [← Bool.not_eq_true]
    intro e
    rw [right_iff.2 (chk_iff.1 e)] at h
    cases h
/-- What Check answers. -/
def okE (o : Objs) : Int := if rightB o = true then 0 else 63
theorem chkE_is (o : Objs) : chkE o = okE o := by unfold chkE okE; rw [chkB_right]
theorem prog_check_any (B : Nat) (o : Objs) (vs vt : Value) (w : World) (ho : objP w (· < B) [vs, vt] o) (hB : B ≤ w.heap.size) (hsm : smallO 3000 o) :
    Calls Try.prog 16 #[.agg #[vs, vt]] w fun e w' => e = .returned (.int .i64 (okE o)) ∧ Below w.heap.size w w' :=
  (prog_chk_any B o vs vt w ho hB hsm).mono fun _ _ ⟨h1, h2⟩ => ⟨by rw [h1, chkE_is], h2⟩
end
end Go.Proofs.Ytkghkioghkapcaa
