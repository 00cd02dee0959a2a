/-
  Layer 8, the program, by contract: isThere, namesRight, membersRight, Check, Is.
-/
import Derived.Test.YtekhkmhpeefenaaRolD
import Derived.Test.YtekhkmhpeefenaaObpD
namespace Go.Proofs.Ytekhkmhpeefenaa
set_option linter.unusedVariables false
open Go.RowKit Go.Sort Go.Shelf

def nmsB (l : List ByteArray) : Bool := decide (l.length ≤ 16) && (l.all nameB && riseB cmpI l)
def mmsB (r : Rols) : Bool := r.mems.all (fun m => inB r.names m.role && inB r.names m.of) && riseB memOrd r.mems
theorem riseB_iff {α : Type} {ord : α → α → Int} {lt : α → α → Bool} (ho : ∀ a b, ord a b < 0 ↔ lt a b = true) (tr : ∀ {a b c}, lt a b = true → lt b c = true → lt a c = true) {l : List α} : riseB ord l = true ↔ l.Pairwise fun a b => lt a b = true := by
  unfold riseB
  rw [all_rng]
  constructor
  · intro h
    refine rise_pairs (lt := lt) tr fun k hk h0 => ?_
    have h1 := h (k - 1) (by omega)
    rw [riseK_get (show k - 1 + 1 < l.length by omega), decide_eq_true_eq, ho] at h1
    have e : k - 1 + 1 = k := by omega
    simp only [e] at h1
    exact h1
  · intro h k hk
    rw [riseK_get (show k + 1 < l.length by omega), decide_eq_true_eq, ho]
    have := pairs_rise h (k + 1) (by omega) (by omega)
    simpa using this
theorem rightR_is (r : Rols) : rightR r = (nmsB r.names && (mmsB r && !(cycB r.mems))) := by
  refine bool_same (p := RightR r) rightR_iff ?_
  unfold nmsB mmsB
  simp only [Bool.and_eq_true, decide_eq_true_eq, List.all_eq_true, Bool.not_eq_true', riseB_iff (lt := ltT) (fun a b => cmpI_lt) ltT_trans, riseB_iff (lt := ltM) (fun a b => memOrd_lt) ltM_trans, inB_iff]
  constructor
  · rintro ⟨⟨h1, h2, h3⟩, ⟨h4, h5⟩, h6⟩
    exact ⟨h1, h2, h3, h4, h5, fun h => by rw [cycB_iff.2 h] at h6; cases h6⟩
  · intro h
    refine ⟨⟨h.few, h.names, h.rise⟩, ⟨h.ends, h.mrise⟩, ?_⟩
    cases hc : cycB r.mems with
    | false => rfl
    | true => exact absurd (cycB_iff.1 hc) h.noring
noncomputable def okR (r : Rols) : Int := if rightR r then 0 else 1
noncomputable def isR (r : Rols) (x y : ByteArray) : Bool := rightR r && (inB r.names x && wayB r.mems x y)

set_option maxRecDepth 100000 in
set_option maxHeartbeats 4000000 in
theorem prog_there_any (B : Nat) (vn vm : Value) (r : Rols) (x : ByteArray) (w : World) (h : rolP w (· < B) [vn, vm] r) :
    Calls Try.prog 40 #[.agg #[vn, vm], .string x] w fun e w' => e = .returned (.bool (inB r.names x)) ∧ Gr w w' := by
  obtain ⟨_, _, hv, hn, hm⟩ := h
  simp only [List.cons.injEq, and_true] at hv
  obtain ⟨rfl, rfl⟩ := hv
  obtain ⟨na, nc, rfl, _, hnm⟩ := hn.form
  obtain ⟨ma, mc, rfl, _, hmm⟩ := hm.form
  have hk := keeps_alloc w B (.cells #[.slice na r.names.length nc, .slice ma r.mems.length mc] 25)
  have hb := box_two w (.slice na r.names.length nc) (.slice ma r.mems.length mc) 25
  have HG := Lib.hid (Gr.alloc w (.cells #[.slice na r.names.length nc, .slice ma r.mems.length mc] 25))
  have HC := Lib.hid (prog_contains_any na r.names.length nc B r.names x _ (strs_keep hn (fun _ h => h) hk))
  obtain ⟨b0, b1⟩ := hb
  clear hk hn hm
  generalize inB r.names x = q at *
  generalize r.names.length = nn at *
  generalize r.mems.length = mn at *
  go_enter Try.func40, Try.ntmps40
  go_wp2_with (go_at_call 63; refine HC.out.mono ?_; rintro e w' ⟨rfl, rfl⟩)
  go_ret
  exact ⟨rfl, HG.out⟩

set_option maxRecDepth 100000 in
set_option maxHeartbeats 4000000 in
theorem prog_names_any (B : Nat) (a : Option Addr) (n c : Nat) (l : List ByteArray) (w : World) (h : Lst w (· < B) strP 1 (.slice a n c) l) (hB : B ≤ w.heap.size) :
    Calls Try.prog 32 #[.slice a n c] w fun e w' => e = .returned (.bool (nmsB l)) ∧ Gr w w' := by
  obtain ⟨hl, hc, hm⟩ := h.len
  unfold maxLen at hm
  by_cases h16 : n ≤ 16
  · have HL := Lib.hid hl
    have HH := Lib.hid h
    have HR := Lib.hid (prog_strrise_any B a n c l w h hB)
    have HN := Lib.hid prog_is_any
    have hno : ∀ k (hk : k < l.length), nameB l[k] = false → nmsB l = false := fun k hk hn => by
      unfold nmsB
      have : l.all nameB = false := List.all_eq_false.2 ⟨_, List.getElem_mem hk, by rw [hn]; simp⟩
      rw [this]; simp
    have hyes : (∀ x ∈ l, nameB x = true) → nmsB l = riseB cmpI l := fun hn => by
      unfold nmsB
      rw [decide_eq_true (by omega), List.all_eq_true.2 hn]; rfl
    have HNO := Lib.hid hno; have HY := Lib.hid hyes
    clear h hl hno hyes
    go_enter Try.func32, Try.ntmps32
    go_wp2_with fail
    go_loop [10] (fun i => ∃ k : Nat, k ≤ n ∧ i = .int .i64 k ∧ Hid (∀ j (hj : j < l.length), j < k → nameB l[j] = true)) (fun i => n - (intOf i).toNat)
    case atStart => exact ⟨0, Nat.zero_le _, rfl, Lib.hid (fun _ _ h => by omega)⟩
    case round =>
      obtain ⟨k, hk, rfl, hn⟩ := hrel
      by_cases hlt : k < n
      · have lk : k < l.length := by rw [HL.out]; exact hlt
        obtain ⟨b, o, x, rfl, hbB, hx, hcl⟩ := HH.out.at lk
        have hno := HNO.out k lk
        have hst : nameB l[k] = true → ∀ j (hj : j < l.length), j < k + 1 → nameB l[j] = true := fun h j hj hjk => by
          by_cases e : j = k
          · subst e; exact h
          · exact hn.out j hj (by omega)
        have k0 : (0 : Int) ≤ (k : Int) := by omega
        have k1 : (k : Int) < (n : Int) := by omega
        generalize l[k] = y at *
        obtain rfl : x = [.string y] := hx
        have c0 : w.cell? ⟨b, o + k, none⟩ = some (.string y) := by have := hcl 0 _ rfl; simpa using this
        clear hcl hn
        cases hq : nameB y with
        | true =>
          have HS := Lib.hid (hst hq)
          clear hst hno
          go_wp2_with (go_at_call 39; refine (HN.out _ _).mono ?_; rintro e w' ⟨rfl, rfl⟩; rw [hq])
          go_round
          case rel => exact ⟨k + 1, by omega, by go_num, HS⟩
          case measure => simp [intOf]; omega
        | false =>
          have HF := Lib.hid (hno hq)
          clear hst hno
          go_wp2_with (go_at_call 39; refine (HN.out _ _).mono ?_; rintro e w' ⟨rfl, rfl⟩; rw [hq])
          go_ret
          exact ⟨by rw [HF.out]; rfl, Gr.refl _⟩
      · have HF := Lib.hid (HY.out fun x hx => by
          obtain ⟨j, hj, rfl⟩ := List.mem_iff_getElem.1 hx
          exact hn.out j hj (by have := HL.out; omega))
        clear hn
        go_wp2_with (go_at_call 59; refine HR.out.mono ?_; rintro e w' ⟨rfl, hg⟩)
        go_ret
        exact ⟨by rw [HF.out]; rfl, hg⟩
  · have HF := Lib.hid (show nmsB l = false by unfold nmsB; rw [decide_eq_false (by omega)]; rfl)
    have h17 : (16 : Int) < (n : Int) := by omega
    clear h hl
    go_enter Try.func32, Try.ntmps32
    go_wp2_with fail
    go_ret
    exact ⟨by rw [HF.out]; rfl, Gr.refl _⟩

set_option maxRecDepth 100000 in
set_option maxHeartbeats 4000000 in
theorem prog_mems_any (B : Nat) (vn vm : Value) (r : Rols) (w : World) (h : rolP w (· < B) [vn, vm] r) (hB : B ≤ w.heap.size) :
    Calls Try.prog 33 #[.agg #[vn, vm]] w fun e w' => e = .returned (.bool (mmsB r)) ∧ Gr w w' := by
  have hh := h
  obtain ⟨_, _, hv, hn, hm⟩ := h
  simp only [List.cons.injEq, and_true] at hv
  obtain ⟨rfl, rfl⟩ := hv
  obtain ⟨na, nc, rfl, _, hnm⟩ := hn.form
  obtain ⟨ma, mc, rfl, _, hmm⟩ := hm.form
  obtain ⟨nn, hnn⟩ : ∃ n, r.names.length = n := ⟨_, rfl⟩
  obtain ⟨mn, hmn⟩ : ∃ n, r.mems.length = n := ⟨_, rfl⟩
  rw [hnn, hmn] at hh ⊢
  rw [hmn] at hm
  unfold maxLen at hmm
  have hrow := heap_alloc_new w (.cells #[.slice na nn nc, .slice ma mn mc] 25)
  have hg0 := Gr.alloc w (.cells #[.slice na nn nc, .slice ma mn mc] 25)
  have hs0 := size_box w (.cells #[.slice na nn nc, .slice ma mn mc] 25)
  have hno : ∀ k (hk : k < r.mems.length), (inB r.names r.mems[k].role && inB r.names r.mems[k].of) = false → mmsB r = false := fun k hk hn => by
    unfold mmsB
    have : r.mems.all (fun m => inB r.names m.role && inB r.names m.of) = false := List.all_eq_false.2 ⟨_, List.getElem_mem hk, by rw [hn]; simp⟩
    rw [this]; simp
  have hyes : (∀ x ∈ r.mems, (inB r.names x.role && inB r.names x.of) = true) → mmsB r = riseB memOrd r.mems := fun hn => by
    unfold mmsB
    rw [List.all_eq_true.2 hn]; rfl
  have HT := Lib.hid (fun x W (hg : Gr w W) => prog_there_any B _ _ r x W (rol_keep hh (fun _ h => h) (hg.keeps fun k hk => Nat.lt_of_lt_of_le hk hB)))
  have HR := Lib.hid (fun W (hg : Gr w W) => prog_memrise_any B ma mn mc r.mems W (mems_keep hm (fun _ h => h) (hg.keeps fun k hk => Nat.lt_of_lt_of_le hk hB)) (Nat.le_trans hB hg.below.size))
  have HNO := Lib.hid hno; have HY := Lib.hid hyes; have HM := Lib.hid hm; have HMN := Lib.hid hmn; have HB := Lib.hid hB
  have HG0 := Lib.hid hg0; have HROW := Lib.hid hrow; have HS0 := Lib.hid hs0
  have d1 := box_at hrow 1 rfl
  clear hh hn hm hno hyes hnn hmn hB hg0 hrow hs0
  go_enter Try.func33, Try.ntmps33
  go_wp2_with fail
  clear d1
  generalize World.alloc w _ = w0 at *
  go_loopw [8] (fun i wr => ∃ k : Nat, k ≤ mn ∧ i = .int .i64 k ∧ Hid (∀ j (hj : j < r.mems.length), j < k → (inB r.names r.mems[j].role && inB r.names r.mems[j].of) = true) ∧ Gr w0 wr) (fun i _ => mn - (intOf i).toNat)
  case atStart => exact ⟨0, Nat.zero_le _, rfl, Lib.hid (fun _ _ h => by omega), Gr.refl _⟩
  case round =>
    obtain ⟨k, hk, rfl, hn, hgr⟩ := hrel
    have hgw := HG0.out.trans hgr
    have hrow := (hgr.below.block w.heap.size (by have := HS0.out; omega)).trans HROW.out
    by_cases hlt : k < mn
    · have lk : k < r.mems.length := by rw [HMN.out]; exact hlt
      obtain ⟨b, o, x, rfl, hbB, hx, hcl⟩ := HM.out.at lk
      have hno := HNO.out k lk
      have hst : (inB r.names r.mems[k].role && inB r.names r.mems[k].of) = true → ∀ j (hj : j < r.mems.length), j < k + 1 → (inB r.names r.mems[j].role && inB r.names r.mems[j].of) = true := fun h j hj hjk => by
        by_cases e : j = k
        · subst e; exact h
        · exact hn.out j hj (by omega)
      have k0 : (0 : Int) ≤ (k : Int) := by omega
      have k1 : (k : Int) < (mn : Int) := by omega
      generalize r.mems[k] = y at *
      obtain ⟨yr, yo⟩ := y
      obtain rfl : x = [.string yr, .string yo] := hx
      have hbw : b < w.heap.size := Nat.lt_of_lt_of_le hbB HB.out
      have c0 : wr.cell? ⟨b, o + k * 2, none⟩ = _ := (hgw.below.cell (p := ⟨b, o + k * 2 + 0, none⟩) hbw).trans (hcl 0 _ rfl)
      have c1 := (hgw.below.cell (p := ⟨b, o + k * 2 + 1, none⟩) hbw).trans (hcl 1 _ rfl)
      have hga := Gr.alloc wr (.cells #[.string yr, .string yo] 45)
      have hrow2 := (hga.below.block w.heap.size (lt_of_block hrow)).trans hrow
      have d0 := box_at hrow2 0 rfl
      have d1 := box_at hrow2 1 rfl
      obtain ⟨e0, e1⟩ := box_two wr (.string yr) (.string yo) 45
      have HC1 := Lib.hid (HT.out yr _ (hgw.trans hga))
      have hs1 := size_box wr (.cells #[.string yr, .string yo] 45)
      have HGA := Lib.hid hga; have HGR := Lib.hid hgr; have HGW := Lib.hid hgw; have HRW := Lib.hid hrow2; have HE1 := Lib.hid e1; have HS1 := Lib.hid hs1
      have HKN := Lib.hid (show k + 1 ≤ mn by omega)
      clear hcl hn hga hgr hgw hrow hrow2 hs1
      cases hq : inB r.names yr with
      | false =>
        have HF := Lib.hid (hno (by rw [hq]; rfl))
        clear hst hno
        rw [hq] at HC1
        go_wp2_with (go_at_call 40; refine HC1.out.mono ?_; rintro e w2 ⟨rfl, g2⟩)
        go_ret
        exact ⟨by rw [HF.out]; rfl, (HGW.out.trans HGA.out).trans g2⟩
      | true =>
        rw [hq] at HC1 hst hno
        go_wp2_with fail
        refine HC1.out.mono ?_
        rintro e w2 ⟨rfl, g2⟩
        have hrow3 := (g2.below.block w.heap.size (lt_of_block HRW.out)).trans HRW.out
        have f0 := box_at hrow3 0 rfl
        have f1 := box_at hrow3 1 rfl
        have e2 := (g2.below.cell (p := ⟨wr.heap.size, 1, none⟩) (by have := HS1.out; show wr.heap.size < _; omega)).trans HE1.out
        have HC2 := Lib.hid (HT.out yo _ ((HGW.out.trans HGA.out).trans g2))
        have HG2 := Lib.hid g2
        clear g2 hrow3
        cases hq2 : inB r.names yo with
        | false =>
          have HF := Lib.hid (hno (by rw [hq2]; rfl))
          clear hst hno
          rw [hq2] at HC2
          go_wp2_with (go_at_call 40; refine HC2.out.mono ?_; rintro e w3 ⟨rfl, g3⟩)
          go_ret
          exact ⟨by rw [HF.out]; rfl, ((HGW.out.trans HGA.out).trans HG2.out).trans g3⟩
        | true =>
          have HS := Lib.hid (hst (by rw [hq2]; rfl))
          clear hst hno
          rw [hq2] at HC2
          go_wp2_with (go_at_call 40; refine HC2.out.mono ?_; rintro e w3 ⟨rfl, g3⟩)
          go_roundw
          case rel => exact ⟨k + 1, HKN.out, by go_num, HS, ((HGR.out.trans HGA.out).trans HG2.out).trans g3⟩
          case measure => have := HKN.out; simp [intOf]; omega
    · have HF := Lib.hid (HY.out fun x hx => by
        obtain ⟨j, hj, rfl⟩ := List.mem_iff_getElem.1 hx
        exact hn.out j hj (by have := HMN.out; omega))
      have d1 := box_at hrow 1 rfl
      have HRR := Lib.hid (HR.out wr hgw)
      have HGW := Lib.hid hgw
      clear hn hgw hgr hrow
      go_wp2_with (go_at_call 60; refine HRR.out.mono ?_; rintro e w' ⟨rfl, hg⟩)
      go_ret
      exact ⟨by rw [HF.out]; rfl, HGW.out.trans hg⟩
end Go.Proofs.Ytekhkmhpeefenaa
