/-
  Layer 8, the document's answer, by contract: Join. (Made by wip/gen_rref.py.)
-/
import Derived.Test.YtekhkmhpeefenaaRolV
import Derived.Test.YtekhkmhpeefenaaLaidB
namespace Go.Proofs.Ytekhkmhpeefenaa
set_option linter.unusedVariables false
open Go.RowKit Go.Sort Go.Shelf

theorem reach_in {r : Rols} {a b : ByteArray} (ha : inB r.names a = true) : inB (reachL r b) a = wayB r.mems b a := by
  have h := inB_iff.1 ha
  cases hw : wayB r.mems b a with
  | true => exact inB_iff.2 (List.mem_filter.2 ⟨h, hw⟩)
  | false =>
    rw [← Bool.not_eq_true]
    intro hi
    have := (List.mem_filter.1 (inB_iff.1 hi)).2
    rw [hw] at this
    cases this

set_option maxRecDepth 100000 in
set_option maxHeartbeats 16000000 in
theorem ref_rjoin_any (B : Nat) (vn vm : Value) (r : Rols) (a b : ByteArray) (w : World) (h : rolP w (· < B) [vn, vm] r) (hB : B ≤ w.heap.size) (hs : smallR 3000 r) :
    Calls Try.prog 21 #[.agg #[vn, vm], .string a, .string b] w (OutR w (joinF r a b)) := by
  obtain ⟨im, mi, mi0, mi1, mi2⟩ := info_parts memInfo
  obtain ⟨na, nn, nc, ma, mn, mc, rfl, rfl, hnn, hmn, hnc, hmc, hnc2, hmc2, hn, hm⟩ := rol_form h
  obtain ⟨w0, hw0⟩ : ∃ w0, w0 = ((w.alloc (.cells #[.slice na nn nc, .slice ma mn mc] 25)).alloc (.cells #[.slice none 0 0, .slice none 0 0] 25)) := ⟨_, rfl⟩
  obtain ⟨q0, q1, hsz, hbw⟩ := boxes2 w (.cells #[.slice na nn nc, .slice ma mn mc] 25) (.cells #[.slice none 0 0, .slice none 0 0] 25)
  rw [← hw0] at q0 q1 hsz hbw
  have HI : Hid ((Try.prog.info? 25).map (·.size) = some 2) := Lib.hid (by kernel_rfl)
  have HON : Hid ((#[.slice none 0 0, .slice none 0 0] : Array Value).all (·.oneCell') = true) := Lib.hid (by kernel_rfl)
  have HRL := Lib.hid (fun W (hW : Below w0.heap.size w0 W) => (rol_on h hB (hbw.trans (hW.mono hbw.size)) : rolP W (· < B) [.slice na nn nc, .slice ma mn mc] r))
  have HBS := Lib.hid (fun W (hW : Below w0.heap.size w0 W) => (Nat.le_trans hB (hbw.trans (hW.mono hbw.size)).size : B ≤ W.heap.size))
  have HBL := Lib.hid (fun W (hW : Below w0.heap.size w0 W) => (hbw.trans (hW.mono hbw.size) : Below w.heap.size w W))
  have HQ0 := Lib.hid (fun W (hW : Below w0.heap.size w0 W) => ((hW.block w.heap.size (lt_of_block q0)).trans q0 : W.heap[w.heap.size]? = _))
  have HQ1 := Lib.hid (fun W (hW : Below w0.heap.size w0 W) => ((hW.block (w.heap.size + 1) (lt_of_block q1)).trans q1 : W.heap[w.heap.size + 1]? = _))
  have HCK := Lib.hid (fun W (hW : Below w0.heap.size w0 W) => ref_rright_any B r _ _ W (HRL.out W hW) (HBS.out W hW))
  have HMB := Lib.hid (fun W (hW : Below w0.heap.size w0 W) => ref_rmember_any B _ _ r a b W (HRL.out W hW) (HBS.out W hW))
  have HOW := Lib.hid (fun W (hW : Below w0.heap.size w0 W) => ref_rown_any B _ _ r W (HRL.out W hW) (HBS.out W hW) hs)
  have HB0 := Lib.hid (Below.refl w0.heap.size w0)
  have HNN := Lib.hid hnn; have HMN := Lib.hid hmn
  have HSZ := Lib.hid hsz; have HHB := Lib.hid hB
  have HM3 := Lib.hid (show mn ≤ 3000 by have := hs.2; omega)
  have HIN := Lib.hid (fun x W (hW : Below w0.heap.size w0 W) => ref_in_any na nn nc B r.names x W (by obtain ⟨_, _, hv, hn2, _⟩ := HRL.out W hW; simp only [List.cons.injEq, and_true] at hv; obtain ⟨rfl, rfl⟩ := hv; exact hn2))
  have HRE := Lib.hid (fun W (hW : Below w0.heap.size w0 W) => ref_reach_any B _ _ r b W (HRL.out W hW) (HBS.out W hW) hs)
  clear h hn hm hs q0 q1 hsz hbw hnn hmn hB hnc hmc hnc2 hmc2
  have x0 := box_at (HQ0.out w0 HB0.out) 0 rfl
  have x1 := box_at (HQ0.out w0 HB0.out) 1 rfl
  subst hw0
  go_enter Try.func21, Try.ntmps21
  go_wp2_with fail
  generalize World.alloc (World.alloc w _) _ = w0 at *
  refine (HCK.out w0 HB0.out).mono ?_
  rintro e w1 ⟨rfl, g⟩
  have HB1 := Lib.hid (below_on HB0.out (Nat.le_refl _) g)
  clear g x0 x1
  have x0 := box_at (HQ0.out w1 HB1.out) 0 rfl
  have x1 := box_at (HQ0.out w1 HB1.out) 1 rfl
  cases h1 : rightR r with
  | false =>
    have HF := Lib.hid (show joinF r a b = (noR, 1) by unfold joinF; rw [if_pos h1])
    go_wp2_with fail
    refine (ref_rno_any 1 _).mono ?_
    rintro e w9 ⟨rfl, b9⟩
    have HB9 := Lib.hid (below_on HB1.out (Nat.le_refl _) b9)
    clear b9
    have HG9 := Lib.hid (HQ1.out w9 HB9.out)
    have HROW9 := Lib.hid (setRow_heap _ _ _ #[.slice none 0 0, .slice none 0 0] _ _ HG9.out)
    go_wp2_with (refine wpList_store_box rfl 25 _ _ rfl (w.heap.size + 1) 25 _ #[.slice none 0 0, .slice none 0 0] rfl rfl HG9.out HI.out rfl HON.out ?_)
    refine bodyPost_ret (results_box_tmp rfl _ _ (w.heap.size + 1) _ _ (0, 0) _ rfl HROW9.out Try.underlying25 rfl HI.out) rfl ?_
    rw [HF.out]
    exact outR_no (HBL.out w9 HB9.out) (Nat.le_succ _)
  | true =>
    have HIA := Lib.hid (HIN.out a w1 HB1.out)
    have HIB := Lib.hid (HIN.out b w1 HB1.out)
    cases h2 : inB r.names a with
    | false =>
      rw [h2] at HIA
      have hin : (inB r.names a && inB r.names b) = false := by rw [h2]; rfl
      have HH2 := Lib.hid h2
      clear h2
      go_wp2_with fail
      refine HIA.out.mono ?_
      rintro e w' ⟨rfl, rfl⟩
      have HF := Lib.hid (show joinF r a b = (noR, 71) by unfold joinF; rw [if_neg (by rw [h1]; simp), if_pos hin])
      go_wp2_with fail
      refine (ref_rno_any 71 _).mono ?_
      rintro e w9 ⟨rfl, b9⟩
      have HB9 := Lib.hid (below_on HB1.out (Nat.le_refl _) b9)
      clear b9
      have HG9 := Lib.hid (HQ1.out w9 HB9.out)
      have HROW9 := Lib.hid (setRow_heap _ _ _ #[.slice none 0 0, .slice none 0 0] _ _ HG9.out)
      go_wp2_with (refine wpList_store_box rfl 25 _ _ rfl (w.heap.size + 1) 25 _ #[.slice none 0 0, .slice none 0 0] rfl rfl HG9.out HI.out rfl HON.out ?_)
      refine bodyPost_ret (results_box_tmp rfl _ _ (w.heap.size + 1) _ _ (0, 0) _ rfl HROW9.out Try.underlying25 rfl HI.out) rfl ?_
      rw [HF.out]
      exact outR_no (HBL.out w9 HB9.out) (Nat.le_succ _)
    | true =>
    rw [h2] at HIA
    have HH2 := Lib.hid h2
    cases h3 : inB r.names b with
    | false =>
      rw [h3] at HIB
      have hin : (inB r.names a && inB r.names b) = false := by rw [h2, h3]; rfl
      clear h2 h3
      go_wp2_with fail
      refine HIA.out.mono ?_
      rintro e w' ⟨rfl, rfl⟩
      go_wp2_with fail
      refine HIB.out.mono ?_
      rintro e w' ⟨rfl, rfl⟩
      have HF := Lib.hid (show joinF r a b = (noR, 71) by unfold joinF; rw [if_neg (by rw [h1]; simp), if_pos hin])
      go_wp2_with fail
      refine (ref_rno_any 71 _).mono ?_
      rintro e w9 ⟨rfl, b9⟩
      have HB9 := Lib.hid (below_on HB1.out (Nat.le_refl _) b9)
      clear b9
      have HG9 := Lib.hid (HQ1.out w9 HB9.out)
      have HROW9 := Lib.hid (setRow_heap _ _ _ #[.slice none 0 0, .slice none 0 0] _ _ HG9.out)
      go_wp2_with (refine wpList_store_box rfl 25 _ _ rfl (w.heap.size + 1) 25 _ #[.slice none 0 0, .slice none 0 0] rfl rfl HG9.out HI.out rfl HON.out ?_)
      refine bodyPost_ret (results_box_tmp rfl _ _ (w.heap.size + 1) _ _ (0, 0) _ rfl HROW9.out Try.underlying25 rfl HI.out) rfl ?_
      rw [HF.out]
      exact outR_no (HBL.out w9 HB9.out) (Nat.le_succ _)
    | true =>
    rw [h3] at HIB
    have hj3 : joinF r a b = (if memIn r.mems ⟨a, b⟩ = true then (noR, 70) else if wayB r.mems b a = true then (noR, 72) else (⟨r.names, insBy ltM ⟨a, b⟩ r.mems⟩, 0)) := by
      unfold joinF; rw [if_neg (by rw [h1]; simp), if_neg (by rw [h2, h3]; simp)]
    have hge : -1 ≤ memIx r.mems ⟨a, b⟩ := idxI_ge _ _
    have HMB1 := Lib.hid (HMB.out w1 HB1.out)
    unfold memIn at hj3
    generalize memIx r.mems ⟨a, b⟩ = q at *
    have HJ3 := Lib.hid hj3
    clear h2 h3 h1 hj3
    go_wp2_with fail
    refine HIA.out.mono ?_
    rintro e w' ⟨rfl, rfl⟩
    go_wp2_with fail
    refine HIB.out.mono ?_
    rintro e w' ⟨rfl, rfl⟩
    by_cases h4 : q < 0
    case neg =>
      obtain ⟨j, rfl⟩ : ∃ j : Nat, q = j := ⟨q.toNat, by omega⟩
      have j0 : (0 : Int) ≤ (j : Int) := by omega
      have HJ := Lib.hid (show joinF r a b = (noR, 70) by rw [HJ3.out, if_pos (by rw [decide_eq_true_eq]; exact j0)])
      clear hge h4
      go_wp2_with fail
      refine HMB1.out.mono ?_
      rintro e w2 ⟨rfl, g⟩
      have HB2 := Lib.hid (below_on HB1.out (Nat.le_refl _) g)
      clear g x0 x1
      have HF := Lib.hid (show joinF r a b = (noR, 70) by exact HJ.out)
      go_wp2_with fail
      refine (ref_rno_any 70 _).mono ?_
      rintro e w9 ⟨rfl, b9⟩
      have HB9 := Lib.hid (below_on HB2.out (Nat.le_refl _) b9)
      clear b9
      have HG9 := Lib.hid (HQ1.out w9 HB9.out)
      have HROW9 := Lib.hid (setRow_heap _ _ _ #[.slice none 0 0, .slice none 0 0] _ _ HG9.out)
      go_wp2_with (refine wpList_store_box rfl 25 _ _ rfl (w.heap.size + 1) 25 _ #[.slice none 0 0, .slice none 0 0] rfl rfl HG9.out HI.out rfl HON.out ?_)
      refine bodyPost_ret (results_box_tmp rfl _ _ (w.heap.size + 1) _ _ (0, 0) _ rfl HROW9.out Try.underlying25 rfl HI.out) rfl ?_
      rw [HF.out]
      exact outR_no (HBL.out w9 HB9.out) (Nat.le_succ _)
    case pos =>
    obtain rfl : q = -1 := by omega
    have HJ := Lib.hid (show joinF r a b = (if wayB r.mems b a = true then (noR, 72) else (⟨r.names, insBy ltM ⟨a, b⟩ r.mems⟩, 0)) by rw [HJ3.out, if_neg (by decide)])
    clear hge h4
    go_wp2_with fail
    refine HMB1.out.mono ?_
    rintro e w2 ⟨rfl, g⟩
    have HB2 := Lib.hid (below_on HB1.out (Nat.le_refl _) g)
    clear g x0 x1
    have x0 := box_at (HQ0.out w2 HB2.out) 0 rfl
    have x1 := box_at (HQ0.out w2 HB2.out) 1 rfl
    go_wp2_with fail
    refine (HRE.out w2 HB2.out).mono ?_
    rintro e w3 ⟨v, rfl, hv, hb⟩
    obtain ⟨va0, vc0, hv0, _, _, hv1⟩ := hv.str
    subst hv0
    have HB3 := Lib.hid (below_on HB2.out (Nat.le_refl _) hb)
    have HIR := Lib.hid (ref_in_any _ _ _ _ _ a w3 hv1)
    clear hv hb hv1 x0 x1
    have x0 := box_at (HQ0.out w3 HB3.out) 0 rfl
    have x1 := box_at (HQ0.out w3 HB3.out) 1 rfl
    rw [reach_in HH2.out] at HIR
    cases h5 : wayB r.mems b a with
    | true =>
      rw [h5] at HIR
      have HJ2 := Lib.hid (show joinF r a b = (noR, 72) by rw [HJ.out, if_pos h5])
      clear h5
      go_wp2_with fail
      refine HIR.out.mono ?_
      rintro e w' ⟨rfl, rfl⟩
      have HF := Lib.hid (show joinF r a b = (noR, 72) by exact HJ2.out)
      go_wp2_with fail
      refine (ref_rno_any 72 _).mono ?_
      rintro e w9 ⟨rfl, b9⟩
      have HB9 := Lib.hid (below_on HB3.out (Nat.le_refl _) b9)
      clear b9
      have HG9 := Lib.hid (HQ1.out w9 HB9.out)
      have HROW9 := Lib.hid (setRow_heap _ _ _ #[.slice none 0 0, .slice none 0 0] _ _ HG9.out)
      go_wp2_with (refine wpList_store_box rfl 25 _ _ rfl (w.heap.size + 1) 25 _ #[.slice none 0 0, .slice none 0 0] rfl rfl HG9.out HI.out rfl HON.out ?_)
      refine bodyPost_ret (results_box_tmp rfl _ _ (w.heap.size + 1) _ _ (0, 0) _ rfl HROW9.out Try.underlying25 rfl HI.out) rfl ?_
      rw [HF.out]
      exact outR_no (HBL.out w9 HB9.out) (Nat.le_succ _)
    | false =>
      rw [h5] at HIR
      have HF := Lib.hid (show joinF r a b = (⟨r.names, insBy ltM ⟨a, b⟩ r.mems⟩, 0) by rw [HJ.out, if_neg (by rw [h5]; simp)])
      clear h5
      go_wp2_with fail
      refine HIR.out.mono ?_
      rintro e w' ⟨rfl, rfl⟩
      go_wp2_with fail
      refine (HOW.out w3 HB3.out).mono ?_
      rintro e wO ⟨vn2, vm2, rfl, hvn, hvm, g⟩
      obtain ⟨na2, nc2, rfl, _, _⟩ := id hvn.form
      obtain ⟨ma2, mc2, rfl, _, _⟩ := id hvm.form
      rw [HNN.out] at hvn
      rw [HNN.out, HMN.out]
      have HBO := Lib.hid (below_on HB3.out (Nat.le_refl _) g)
      have HVN := Lib.hid (hvn.mono str_stays (HBL.out _ HB3.out).size)
      clear g hvn hvm x0 x1
      obtain ⟨hq8, hq9, hs9, hb8⟩ := boxes2 wO (.cells #[.slice na2 nn nc2, .slice ma2 mn mc2] 25) (.cells #[.string a, .string b] 45)
      have HQ8' := Lib.hid hq8; have HQ9' := Lib.hid hq9; have HB8 := Lib.hid hb8
      clear hq8 hq9 hb8 hs9
      have x1 := box_at (HQ0.out _ (below_on HBO.out (Nat.le_refl _) HB8.out)) 1 rfl
      go_wp2_with fail
      generalize World.alloc (World.alloc wO _) _ = wQ at *
      have HBQ := Lib.hid (below_on HBO.out (Nat.le_refl _) HB8.out)
      have HQ8 := Lib.hid (fun W (hW : Below wQ.heap.size wQ W) => ((hW.block wO.heap.size (lt_of_block HQ8'.out)).trans HQ8'.out : W.heap[wO.heap.size]? = _))
      have HQ9 := Lib.hid (fun W (hW : Below wQ.heap.size wQ W) => ((hW.block (wO.heap.size + 1) (lt_of_block HQ9'.out)).trans HQ9'.out : W.heap[wO.heap.size + 1]? = _))
      have HA0 : Hid (OwnX memQ wQ wQ.heap.size 45 2 (.slice none 0 0) ([] : List Mem) ∧ Below wQ.heap.size wQ wQ) := Lib.hid ⟨OwnX.nil _ _ _ _ _, Below.refl _ _⟩
      clear x1
      go_loopw [10, 11, 12] (fun v u i wr => ∃ (acc : List Mem) (k : Nat) (bi : Bool) (va' : Option Addr) (cap' : Nat), v = .slice va' acc.length cap' ∧ u = .bool bi ∧ i = .int .i64 k ∧ k ≤ mn ∧ Hid (LaidB ltM ⟨a, b⟩ r.mems acc k bi ∧ OwnX memQ wr wQ.heap.size 45 2 (.slice va' acc.length cap') acc ∧ Below wQ.heap.size wQ wr)) (fun _ _ i _ => mn - (intOf i).toNat)
      case atStart => exact ⟨[], 0, false, none, 0, rfl, rfl, rfl, Nat.zero_le _, Lib.hid ⟨laidB_start, HA0.out⟩⟩
      case round =>
        clear HA0
        obtain ⟨acc, k, bi, va', cap', rfl, rfl, rfl, hk, HR⟩ := hrel
        obtain ⟨hac, hx, hb⟩ := HR.out
        have hb0 := below_on HBQ.out (Nat.le_refl _) hb
        have x1 := box_at (HQ0.out _ hb0) 1 rfl
        have hmn3 : mn ≤ 3000 := HM3.out
        have hln := laidB_len hac
        by_cases hlt : k < mn
        · have lk : k < r.mems.length := by rw [HMN.out]; exact hlt
          obtain ⟨_, _, _, _, _, _, _, _, _, _, _, _, _, _, _, hm2⟩ := rol_form (HRL.out _ hb0)
          obtain ⟨bb, q, x, rfl, hbB, hxx, hcl⟩ := hm2.at lk
          have k0 : (0 : Int) ≤ (k : Int) := by omega
          have k1 : (k : Int) < (mn : Int) := by omega
          have HMORE := Lib.hid (fun (e : bi = true) => laidB_more (e ▸ hac) lk)
          have HPASS := Lib.hid (fun (e : bi = false) => laidB_pass (e ▸ hac) lk)
          have HHERE := Lib.hid (fun (e : bi = false) => laidB_here (e ▸ hac) lk)
          generalize r.mems[k] = y at *
          obtain ⟨yr, yo⟩ := y
          obtain rfl : x = [.string yr, .string yo] := hxx
          have c0 : wr.cell? ⟨bb, q + k * 2, none⟩ = _ := hcl 0 _ rfl
          have c1 := hcl 1 _ rfl
          obtain ⟨e0, e1⟩ := box_two wr (.string yr) (.string yo) 45
          have hal := (Below.refl wr.heap.size wr).alloc (Nat.le_refl _) (.cells #[.string yr, .string yo] 45)
          have HKN := Lib.hid (show k + 1 ≤ mn by omega)
          have HLN := Lib.hid (show acc.length ≤ 3001 by omega)
          have HSZ4 := Lib.hid (size_box wr (.cells #[.string yr, .string yo] 45))
          have HXR := Lib.hid hx
          have HX4 := Lib.hid (hx.below mem_stays hal)
          have HB4 := Lib.hid (below_on hb (Nat.le_refl _) hal)
          have y0 := box_at (HQ9.out _ HB4.out) 0 rfl
          have y1 := box_at (HQ9.out _ HB4.out) 1 rfl
          clear hac hx hb hb0 hm2 hcl HR hal hln
          cases bi with
          | true =>
            have HN := Lib.hid (HMORE.out rfl)
            clear HMORE HPASS HHERE
            have hal5 := (Below.refl _ (wr.alloc (.cells #[.string yr, .string yo] 45))).alloc (Nat.le_refl _) (.cells #[.string yr, .string yo] 45)
            have HLIT := Lib.hid (lit_memb (wr.alloc (.cells #[.string yr, .string yo] 45)) yr yo)
            have HX5 := Lib.hid (HX4.out.below mem_stays hal5)
            have HB5 := Lib.hid (below_on HB4.out (Nat.le_refl _) hal5)
            have HZ5 := Lib.hid (show wQ.heap.size ≤ (World.alloc (wr.alloc (.cells #[.string yr, .string yo] 45)) (.cells #[.string yr, .string yo] 45)).heap.size from HB5.out.size)
            clear hal5

            have HM5 := Lib.hid (show acc.length + 1 ≤ maxLen by have := HLN.out; unfold maxLen; omega)
            have HBY5 := Lib.hid (show ((acc.length + 1) + (acc.length + 1) / 4 + 192) * 32 ≤ 281474976710656 by have := HLN.out; omega)
            rw [HSZ4.out] at HLIT
            go_wp2_with (at_builtin; refine wpList_append_flat rfl _ _ 23 rfl wQ.heap.size 45 im _ 2 32 Try.underlying23 mi mi0 mi1 mi2 rfl (by decide) mem_stays (fun h => h) rfl HX5.out rfl HLIT.out HM5.out HBY5.out HZ5.out ?_)
            intro v6 w6 hx6 hb6 _
            have hx6' := hx6
            obtain ⟨va6, cap6, rfl, _, _⟩ := hx6'.form
            have HFF := Lib.hid (And.intro HN.out (And.intro hx6 (HB5.out.trans hb6)))
            clear hx6 hb6 hx6'
            go_wp2_with fail
            go_roundw
            case rel => exact ⟨acc ++ [⟨yr, yo⟩], k + 1, _, _, _, rfl, rfl, by go_num, HKN.out, HFF⟩
            case measure => have := HKN.out; simp [intOf]; omega
          | false =>
            cases hl1 : ltT a yr with
            | true =>
              have el1 : Op.bytesLess a.toList yr.toList = true := hl1
              have HN := Lib.hid (HHERE.out rfl (by unfold ltM; rw [hl1]; rfl))
              clear HMORE HPASS HHERE hl1
              have hal5 := (Below.refl _ (wr.alloc (.cells #[.string yr, .string yo] 45))).alloc (Nat.le_refl _) (.cells #[.string a, .string b] 45)
              have HLITX := Lib.hid (lit_memb (wr.alloc (.cells #[.string yr, .string yo] 45)) a b)
              have HX5 := Lib.hid (HX4.out.below mem_stays hal5)
              have HB5 := Lib.hid (below_on HB4.out (Nat.le_refl _) hal5)
              have HZ5 := Lib.hid (show wQ.heap.size ≤ (World.alloc (wr.alloc (.cells #[.string yr, .string yo] 45)) (.cells #[.string a, .string b] 45)).heap.size from HB5.out.size)
              have HMB5 := Lib.hid ((Below.heap_alloc (wr.alloc (.cells #[.string yr, .string yo] 45)) (.cells #[.string a, .string b] 45) wr.heap.size (by rw [HSZ4.out]; omega)).trans (heap_alloc_new wr (.cells #[.string yr, .string yo] 45)))
              have HNE := Lib.hid (show (Value.slice va' acc.length cap').ownBlock ≠ some wr.heap.size from fun he => absurd (HXR.out.block he).2.lt (Nat.lt_irrefl _))
              clear hal5
              have HM5 := Lib.hid (show acc.length + 1 ≤ maxLen by have := HLN.out; unfold maxLen; omega)
              have HBY5 := Lib.hid (show ((acc.length + 1) + (acc.length + 1) / 4 + 192) * 32 ≤ 281474976710656 by have := HLN.out; omega)
              rw [HSZ4.out] at HLITX
              go_wp2_with (at_builtin; refine wpList_append_flat rfl _ _ 23 rfl wQ.heap.size 45 im _ 2 32 Try.underlying23 mi mi0 mi1 mi2 rfl (by decide) mem_stays (fun h => h) rfl HX5.out rfl HLITX.out HM5.out HBY5.out HZ5.out ?_)
              intro v6 w6 hx6 hb6 hk6
              have hmb6 := hk6.row HMB5.out HNE.out
              have e60 := box_at hmb6 0 rfl
              have e61 := box_at hmb6 1 rfl
              have hx6' := hx6
              obtain ⟨va6, cap6, rfl, _, _⟩ := hx6'.form
              have HX6 := Lib.hid hx6
              have HB6 := Lib.hid (HB5.out.trans hb6)
              clear hx6 hb6 hx6' hk6 hmb6 HX5 HB5 HZ5

              have hal5 := (Below.refl _ w6).alloc (Nat.le_refl _) (.cells #[.string yr, .string yo] 45)
              have HLIT := Lib.hid (lit_memb w6 yr yo)
              have HX5 := Lib.hid (HX6.out.below mem_stays hal5)
              have HB5 := Lib.hid (below_on HB6.out (Nat.le_refl _) hal5)
              have HZ5 := Lib.hid (show wQ.heap.size ≤ (World.alloc w6 (.cells #[.string yr, .string yo] 45)).heap.size from HB5.out.size)
              clear hal5

              have HM6 := Lib.hid (show (acc ++ [(⟨a, b⟩ : Mem)]).length + 1 ≤ maxLen by have := HLN.out; rw [List.length_append, List.length_singleton]; unfold maxLen; omega)
              have HBY6 := Lib.hid (show (((acc ++ [(⟨a, b⟩ : Mem)]).length + 1) + ((acc ++ [(⟨a, b⟩ : Mem)]).length + 1) / 4 + 192) * 32 ≤ 281474976710656 by have := HLN.out; rw [List.length_append, List.length_singleton]; omega)
              go_wp2_with (at_builtin; refine wpList_append_flat rfl _ _ 23 rfl wQ.heap.size 45 im _ 2 32 Try.underlying23 mi mi0 mi1 mi2 rfl (by decide) mem_stays (fun h => h) rfl HX5.out rfl HLIT.out HM6.out HBY6.out HZ5.out ?_)
              intro v7 w7 hx7 hb7 _
              have hx7' := hx7
              obtain ⟨va7, cap7, rfl, _, _⟩ := hx7'.form
              have HFF := Lib.hid (And.intro (show LaidB ltM ⟨a, b⟩ r.mems (acc ++ [⟨a, b⟩, ⟨yr, yo⟩]) (k + 1) true by have h := HN.out; rw [List.append_assoc] at h; exact h) (And.intro hx7 (HB5.out.trans hb7)))
              clear hx7 hb7 hx7'
              go_wp2_with fail
              go_roundw
              case rel => exact ⟨acc ++ [⟨a, b⟩, ⟨yr, yo⟩], k + 1, _, _, _, rfl, rfl, by go_num, HKN.out, HFF⟩
              case measure => have := HKN.out; simp [intOf]; omega
            | false =>
              have el1 : Op.bytesLess a.toList yr.toList = false := hl1
              cases hq1 : eqT a yr with
              | false =>
                have eq1 : (a.toList == yr.toList) = false := hq1
                have HN := Lib.hid (HPASS.out rfl (by unfold ltM; rw [hl1, hq1]; rfl))
                clear HMORE HPASS HHERE hl1 hq1
                have hal5 := (Below.refl _ (wr.alloc (.cells #[.string yr, .string yo] 45))).alloc (Nat.le_refl _) (.cells #[.string yr, .string yo] 45)
                have HLIT := Lib.hid (lit_memb (wr.alloc (.cells #[.string yr, .string yo] 45)) yr yo)
                have HX5 := Lib.hid (HX4.out.below mem_stays hal5)
                have HB5 := Lib.hid (below_on HB4.out (Nat.le_refl _) hal5)
                have HZ5 := Lib.hid (show wQ.heap.size ≤ (World.alloc (wr.alloc (.cells #[.string yr, .string yo] 45)) (.cells #[.string yr, .string yo] 45)).heap.size from HB5.out.size)
                clear hal5

                have HM5 := Lib.hid (show acc.length + 1 ≤ maxLen by have := HLN.out; unfold maxLen; omega)
                have HBY5 := Lib.hid (show ((acc.length + 1) + (acc.length + 1) / 4 + 192) * 32 ≤ 281474976710656 by have := HLN.out; omega)
                rw [HSZ4.out] at HLIT
                go_wp2_with (at_builtin; refine wpList_append_flat rfl _ _ 23 rfl wQ.heap.size 45 im _ 2 32 Try.underlying23 mi mi0 mi1 mi2 rfl (by decide) mem_stays (fun h => h) rfl HX5.out rfl HLIT.out HM5.out HBY5.out HZ5.out ?_)
                intro v6 w6 hx6 hb6 _
                have hx6' := hx6
                obtain ⟨va6, cap6, rfl, _, _⟩ := hx6'.form
                have HFF := Lib.hid (And.intro HN.out (And.intro hx6 (HB5.out.trans hb6)))
                clear hx6 hb6 hx6'
                go_wp2_with fail
                go_roundw
                case rel => exact ⟨acc ++ [⟨yr, yo⟩], k + 1, _, _, _, rfl, rfl, by go_num, HKN.out, HFF⟩
                case measure => have := HKN.out; simp [intOf]; omega
              | true =>
                have eq1 : (a.toList == yr.toList) = true := hq1
                cases hl2 : ltT b yo with
                | true =>
                  have el2 : Op.bytesLess b.toList yo.toList = true := hl2
                  have HN := Lib.hid (HHERE.out rfl (by unfold ltM; rw [hl1, hq1, hl2]; rfl))
                  clear HMORE HPASS HHERE hl1 hq1 hl2
                  have hal5 := (Below.refl _ (wr.alloc (.cells #[.string yr, .string yo] 45))).alloc (Nat.le_refl _) (.cells #[.string a, .string b] 45)
                  have HLITX := Lib.hid (lit_memb (wr.alloc (.cells #[.string yr, .string yo] 45)) a b)
                  have HX5 := Lib.hid (HX4.out.below mem_stays hal5)
                  have HB5 := Lib.hid (below_on HB4.out (Nat.le_refl _) hal5)
                  have HZ5 := Lib.hid (show wQ.heap.size ≤ (World.alloc (wr.alloc (.cells #[.string yr, .string yo] 45)) (.cells #[.string a, .string b] 45)).heap.size from HB5.out.size)
                  have HMB5 := Lib.hid ((Below.heap_alloc (wr.alloc (.cells #[.string yr, .string yo] 45)) (.cells #[.string a, .string b] 45) wr.heap.size (by rw [HSZ4.out]; omega)).trans (heap_alloc_new wr (.cells #[.string yr, .string yo] 45)))
                  have HNE := Lib.hid (show (Value.slice va' acc.length cap').ownBlock ≠ some wr.heap.size from fun he => absurd (HXR.out.block he).2.lt (Nat.lt_irrefl _))
                  clear hal5
                  have HM5 := Lib.hid (show acc.length + 1 ≤ maxLen by have := HLN.out; unfold maxLen; omega)
                  have HBY5 := Lib.hid (show ((acc.length + 1) + (acc.length + 1) / 4 + 192) * 32 ≤ 281474976710656 by have := HLN.out; omega)
                  rw [HSZ4.out] at HLITX
                  go_wp2_with (at_builtin; refine wpList_append_flat rfl _ _ 23 rfl wQ.heap.size 45 im _ 2 32 Try.underlying23 mi mi0 mi1 mi2 rfl (by decide) mem_stays (fun h => h) rfl HX5.out rfl HLITX.out HM5.out HBY5.out HZ5.out ?_)
                  intro v6 w6 hx6 hb6 hk6
                  have hmb6 := hk6.row HMB5.out HNE.out
                  have e60 := box_at hmb6 0 rfl
                  have e61 := box_at hmb6 1 rfl
                  have hx6' := hx6
                  obtain ⟨va6, cap6, rfl, _, _⟩ := hx6'.form
                  have HX6 := Lib.hid hx6
                  have HB6 := Lib.hid (HB5.out.trans hb6)
                  clear hx6 hb6 hx6' hk6 hmb6 HX5 HB5 HZ5

                  have hal5 := (Below.refl _ w6).alloc (Nat.le_refl _) (.cells #[.string yr, .string yo] 45)
                  have HLIT := Lib.hid (lit_memb w6 yr yo)
                  have HX5 := Lib.hid (HX6.out.below mem_stays hal5)
                  have HB5 := Lib.hid (below_on HB6.out (Nat.le_refl _) hal5)
                  have HZ5 := Lib.hid (show wQ.heap.size ≤ (World.alloc w6 (.cells #[.string yr, .string yo] 45)).heap.size from HB5.out.size)
                  clear hal5

                  have HM6 := Lib.hid (show (acc ++ [(⟨a, b⟩ : Mem)]).length + 1 ≤ maxLen by have := HLN.out; rw [List.length_append, List.length_singleton]; unfold maxLen; omega)
                  have HBY6 := Lib.hid (show (((acc ++ [(⟨a, b⟩ : Mem)]).length + 1) + ((acc ++ [(⟨a, b⟩ : Mem)]).length + 1) / 4 + 192) * 32 ≤ 281474976710656 by have := HLN.out; rw [List.length_append, List.length_singleton]; omega)
                  go_wp2_with (at_builtin; refine wpList_append_flat rfl _ _ 23 rfl wQ.heap.size 45 im _ 2 32 Try.underlying23 mi mi0 mi1 mi2 rfl (by decide) mem_stays (fun h => h) rfl HX5.out rfl HLIT.out HM6.out HBY6.out HZ5.out ?_)
                  intro v7 w7 hx7 hb7 _
                  have hx7' := hx7
                  obtain ⟨va7, cap7, rfl, _, _⟩ := hx7'.form
                  have HFF := Lib.hid (And.intro (show LaidB ltM ⟨a, b⟩ r.mems (acc ++ [⟨a, b⟩, ⟨yr, yo⟩]) (k + 1) true by have h := HN.out; rw [List.append_assoc] at h; exact h) (And.intro hx7 (HB5.out.trans hb7)))
                  clear hx7 hb7 hx7'
                  go_wp2_with fail
                  go_roundw
                  case rel => exact ⟨acc ++ [⟨a, b⟩, ⟨yr, yo⟩], k + 1, _, _, _, rfl, rfl, by go_num, HKN.out, HFF⟩
                  case measure => have := HKN.out; simp [intOf]; omega
                | false =>
                  have el2 : Op.bytesLess b.toList yo.toList = false := hl2
                  have HN := Lib.hid (HPASS.out rfl (by unfold ltM; rw [hl1, hq1, hl2]; rfl))
                  clear HMORE HPASS HHERE hl1 hq1 hl2
                  have hal5 := (Below.refl _ (wr.alloc (.cells #[.string yr, .string yo] 45))).alloc (Nat.le_refl _) (.cells #[.string yr, .string yo] 45)
                  have HLIT := Lib.hid (lit_memb (wr.alloc (.cells #[.string yr, .string yo] 45)) yr yo)
                  have HX5 := Lib.hid (HX4.out.below mem_stays hal5)
                  have HB5 := Lib.hid (below_on HB4.out (Nat.le_refl _) hal5)
                  have HZ5 := Lib.hid (show wQ.heap.size ≤ (World.alloc (wr.alloc (.cells #[.string yr, .string yo] 45)) (.cells #[.string yr, .string yo] 45)).heap.size from HB5.out.size)
                  clear hal5

                  have HM5 := Lib.hid (show acc.length + 1 ≤ maxLen by have := HLN.out; unfold maxLen; omega)
                  have HBY5 := Lib.hid (show ((acc.length + 1) + (acc.length + 1) / 4 + 192) * 32 ≤ 281474976710656 by have := HLN.out; omega)
                  rw [HSZ4.out] at HLIT
                  go_wp2_with (at_builtin; refine wpList_append_flat rfl _ _ 23 rfl wQ.heap.size 45 im _ 2 32 Try.underlying23 mi mi0 mi1 mi2 rfl (by decide) mem_stays (fun h => h) rfl HX5.out rfl HLIT.out HM5.out HBY5.out HZ5.out ?_)
                  intro v6 w6 hx6 hb6 _
                  have hx6' := hx6
                  obtain ⟨va6, cap6, rfl, _, _⟩ := hx6'.form
                  have HFF := Lib.hid (And.intro HN.out (And.intro hx6 (HB5.out.trans hb6)))
                  clear hx6 hb6 hx6'
                  go_wp2_with fail
                  go_roundw
                  case rel => exact ⟨acc ++ [⟨yr, yo⟩], k + 1, _, _, _, rfl, rfl, by go_num, HKN.out, HFF⟩
                  case measure => have := HKN.out; simp [intOf]; omega
        · obtain rfl : mn = k := by omega
          rw [← HMN.out] at hac
          have y0 := box_at (HQ9.out _ hb) 0 rfl
          have y1 := box_at (HQ9.out _ hb) 1 rfl
          cases bi with
          | true =>
            have hlast := laidB_end hac
            obtain rfl : acc = insBy ltM ⟨a, b⟩ r.mems := hlast
            generalize wr = wF at *
            generalize va' = va at *
            generalize cap' = cap at *
            have HXF := Lib.hid hx; have HBF := Lib.hid hb; have HBWF0 := Lib.hid hb0
            have HBOF := Lib.hid (HB8.out.trans (hb.mono HB8.out.size)); have HBWF := Lib.hid (HBL.out _ hb0)
            have HWQ := Lib.hid (HBL.out _ HBQ.out).size
            clear hac hx hb hb0 HR hln

            have hr8 := HQ8.out wF HBF.out
            have x8z := frozen_of_row _ wO.heap.size 1 _ _ hr8
            have x81 := box_at hr8 1 rfl
            have hk8 : Keeps (· ≠ wO.heap.size) wF (wF.setCell ⟨wO.heap.size, 1, none⟩ (.slice va (insBy ltM ⟨a, b⟩ r.mems).length cap)) := Keeps.refl.setCell (by simp) _
            have hr9 := heap_setCell_same wF wO.heap.size 1 _ _ (.slice va (insBy ltM ⟨a, b⟩ r.mems).length cap) hr8
            have z0 := box_at hr9 0 rfl
            have z1 := box_at hr9 1 rfl
            have hmF := HXF.out.move (fun h => h) hk8 fun g hg => HXF.out.off hr8 (by decide) hg
            have hnO := HVN.out.below str_stays HBOF.out
            have hnF := hnO.move (fun h => h) hk8 fun g hg => hnO.off hr8 (by decide) hg
            have hbF : Below w.heap.size w (wF.setCell ⟨wO.heap.size, 1, none⟩ (.slice va (insBy ltM ⟨a, b⟩ r.mems).length cap)) := (HBWF.out).trans (hk8.below HBWF.out.size fun j hj => by have := HBO.out.size; have := (HBL.out _ HBO.out).size; omega)
            have HGF := Lib.hid (hk8.row (HQ1.out wF HBWF0.out) (by have := HSZ.out; have := HBO.out.size; omega))
            have HMF := Lib.hid (hmF.mono mem_stays (show w.heap.size ≤ wQ.heap.size from HWQ.out)); have HNF := Lib.hid hnF; have HBFF := Lib.hid hbF
            have HOS : Hid ((#[.slice na2 nn nc2, .slice va (insBy ltM ⟨a, b⟩ r.mems).length cap] : Array Value).all (·.oneCell') = true) := Lib.hid (by kernel_rfl)
            have HROWF := Lib.hid (setRow_heap _ _ _ #[.slice na2 nn nc2, .slice va (insBy ltM ⟨a, b⟩ r.mems).length cap] _ _ HGF.out)
            clear hr8 hk8 hr9 hmF hnO hnF hbF
            go_wp2_with (refine wpList_store_box rfl 25 _ _ rfl (w.heap.size + 1) 25 _ #[.slice na2 nn nc2, .slice va (insBy ltM ⟨a, b⟩ r.mems).length cap] rfl rfl HGF.out HI.out rfl HOS.out ?_)
            refine bodyPost_ret (results_box_tmp rfl _ _ (w.heap.size + 1) _ _ (0, 0) _ rfl HROWF.out Try.underlying25 rfl HI.out) rfl ?_
            rw [HF.out]
            exact outR_yes (c := 0) HBFF.out (Nat.le_succ _) HGF.out HNF.out HMF.out
          | false =>
            have hlast := laidB_last hac
            have hal5 := (Below.refl _ wr).alloc (Nat.le_refl _) (.cells #[.string a, .string b] 45)
            have HLITX := Lib.hid (lit_memb wr a b)
            have HX5 := Lib.hid (hx.below mem_stays hal5)
            have HB5 := Lib.hid (below_on hb (Nat.le_refl _) hal5)
            have HZ5 := Lib.hid (show wQ.heap.size ≤ (World.alloc wr (.cells #[.string a, .string b] 45)).heap.size from HB5.out.size)
            have HM5 := Lib.hid (show acc.length + 1 ≤ maxLen by have := hln; unfold maxLen; omega)
            have HBY5 := Lib.hid (show ((acc.length + 1) + (acc.length + 1) / 4 + 192) * 32 ≤ 281474976710656 by have := hln; omega)
            have HLS := Lib.hid hlast
            clear hal5 hx hb hln hlast hac HR
            go_wp2_with (at_builtin; refine wpList_append_flat rfl _ _ 23 rfl wQ.heap.size 45 im _ 2 32 Try.underlying23 mi mi0 mi1 mi2 rfl (by decide) mem_stays (fun h => h) rfl HX5.out rfl HLITX.out HM5.out HBY5.out HZ5.out ?_)
            intro v6 w6 hx6 hb6 _
            obtain ⟨va, cap, rfl, _, _⟩ := id hx6.form
            have hb6' := HB5.out.trans hb6
            have hb0' := below_on HBQ.out (Nat.le_refl _) hb6'
            rw [HLS.out] at hx6 ⊢
            generalize w6 = wF at *
            have HXF := Lib.hid hx6; have HBF := Lib.hid hb6'; have HBWF0 := Lib.hid hb0'
            have HBOF := Lib.hid (HB8.out.trans (hb6'.mono HB8.out.size)); have HBWF := Lib.hid (HBL.out _ hb0')
            have HWQ := Lib.hid (HBL.out _ HBQ.out).size
            clear hx6 hb6 hb6' hb0' x1 y0 y1 hb0

            have hr8 := HQ8.out wF HBF.out
            have x8z := frozen_of_row _ wO.heap.size 1 _ _ hr8
            have x81 := box_at hr8 1 rfl
            have hk8 : Keeps (· ≠ wO.heap.size) wF (wF.setCell ⟨wO.heap.size, 1, none⟩ (.slice va (insBy ltM ⟨a, b⟩ r.mems).length cap)) := Keeps.refl.setCell (by simp) _
            have hr9 := heap_setCell_same wF wO.heap.size 1 _ _ (.slice va (insBy ltM ⟨a, b⟩ r.mems).length cap) hr8
            have z0 := box_at hr9 0 rfl
            have z1 := box_at hr9 1 rfl
            have hmF := HXF.out.move (fun h => h) hk8 fun g hg => HXF.out.off hr8 (by decide) hg
            have hnO := HVN.out.below str_stays HBOF.out
            have hnF := hnO.move (fun h => h) hk8 fun g hg => hnO.off hr8 (by decide) hg
            have hbF : Below w.heap.size w (wF.setCell ⟨wO.heap.size, 1, none⟩ (.slice va (insBy ltM ⟨a, b⟩ r.mems).length cap)) := (HBWF.out).trans (hk8.below HBWF.out.size fun j hj => by have := HBO.out.size; have := (HBL.out _ HBO.out).size; omega)
            have HGF := Lib.hid (hk8.row (HQ1.out wF HBWF0.out) (by have := HSZ.out; have := HBO.out.size; omega))
            have HMF := Lib.hid (hmF.mono mem_stays (show w.heap.size ≤ wQ.heap.size from HWQ.out)); have HNF := Lib.hid hnF; have HBFF := Lib.hid hbF
            have HOS : Hid ((#[.slice na2 nn nc2, .slice va (insBy ltM ⟨a, b⟩ r.mems).length cap] : Array Value).all (·.oneCell') = true) := Lib.hid (by kernel_rfl)
            have HROWF := Lib.hid (setRow_heap _ _ _ #[.slice na2 nn nc2, .slice va (insBy ltM ⟨a, b⟩ r.mems).length cap] _ _ HGF.out)
            clear hr8 hk8 hr9 hmF hnO hnF hbF
            go_wp2_with (refine wpList_store_box rfl 25 _ _ rfl (w.heap.size + 1) 25 _ #[.slice na2 nn nc2, .slice va (insBy ltM ⟨a, b⟩ r.mems).length cap] rfl rfl HGF.out HI.out rfl HOS.out ?_)
            refine bodyPost_ret (results_box_tmp rfl _ _ (w.heap.size + 1) _ _ (0, 0) _ rfl HROWF.out Try.underlying25 rfl HI.out) rfl ?_
            rw [HF.out]
            exact outR_yes (c := 0) HBFF.out (Nat.le_succ _) HGF.out HNF.out HMF.out
end Go.Proofs.Ytekhkmhpeefenaa
