/-
  Layer 8, the program, by contract: Add, Drop. (Made by wip/gen_radds.py.)
-/
import Derived.Test.YtekhkmhpeefenaaRolX
import Derived.Test.YtekhkmhpeefenaaObpD
namespace Go.Proofs.Ytekhkmhpeefenaa
set_option linter.unusedVariables false
open Go.RowKit Go.Sort Go.Shelf

theorem lt_flipT {x : ByteArray} {l : List ByteArray} (h : x ∉ l) : ∀ y ∈ l, ltT y x = !(ltT x y) := fun y hy => by
  rcases ltT_or (a := x) (b := y) with h1 | h1 | h1
  · rw [h1, ltT_anti h1]; rfl
  · exact absurd (h1 ▸ hy) h
  · rw [h1, ltT_anti h1]; rfl
theorem erase_filt {n : ByteArray} : ∀ {l : List ByteArray}, l.Pairwise (fun a b => ltT a b = true) → ∀ {k : Nat}, idxI (fun x => eqT n x) l = k → l.filter (fun s => !eqT s n) = l.eraseIdx k
  | [], _, k, hk => by simp
  | x :: r, hp, k, hk => by
    rw [List.pairwise_cons] at hp
    unfold idxI at hk
    by_cases hx : eqT n x = true
    · rw [if_pos hx] at hk
      obtain rfl : k = 0 := by omega
      rw [List.filter_cons, if_neg (by rw [eqT_comm, hx]; simp), List.eraseIdx_zero, List.tail_cons, List.filter_eq_self]
      intro y hy
      cases hy2 : eqT y n with
      | false => rfl
      | true =>
        have h1 := hp.1 y hy
        rw [eqT_iff] at hx hy2
        rw [← hx, hy2, ltT_irr] at h1
        cases h1
    · rw [if_neg hx] at hk
      split at hk
      · omega
      · obtain ⟨j, rfl⟩ : ∃ j, k = j + 1 := ⟨k - 1, by omega⟩
        rw [List.filter_cons, if_pos (by rw [eqT_comm]; simpa using hx), List.eraseIdx_cons_succ, erase_filt hp.2 (k := j) (by omega)]

set_option maxRecDepth 100000 in
set_option maxHeartbeats 2000000 in
theorem prog_idx_mem (B : Nat) (a : Option Addr) (n c : Nat) (l : List Mem) (g : Nat) (lb : Array Value) (p : Mem → Bool) (w : World) (h : Lst w (· < B) memP 2 (.slice a n c) l) (hB : B ≤ w.heap.size)
    (eg : ∀ args w, (callFunc g args).run Try.prog w = .ok (.enter g args) w)
    (hp : ∀ W x y, Gr w W → memP x y → Calls Try.prog g (#[.agg x.toArray] ++ lb) W fun e w' => e = .returned (.bool (p y)) ∧ Gr W w') :
    Calls Try.prog 68 #[.slice a n c, .func (.func g) #[] lb] w fun e w' => e = .returned (.int .i64 (idxI p l)) ∧ Gr w w' := by
  obtain ⟨hl, hc, hm⟩ := h.len
  unfold maxLen at hm
  have HL := Lib.hid hl
  have HH := Lib.hid h
  have HP := Lib.hid hp
  clear h hl hp
  go_enter Try.func68, Try.ntmps68
  go_wp2_with fail
  go_loopw [5, 8] (fun _ i wr => ∃ k : Nat, k ≤ n ∧ i = .int .i64 k ∧ Hid (∀ x ∈ l.take k, p x = false) ∧ Gr w wr) (fun _ i _ => n - (intOf i).toNat)
  case atStart => exact ⟨0, Nat.zero_le _, rfl, Lib.hid (by simp), Gr.refl _⟩
  case round =>
    obtain ⟨k, hk, rfl, hn, hbw⟩ := hrel
    by_cases hlt : k < n
    · have lk : k < l.length := by rw [HL.out]; exact hlt
      obtain ⟨b, o, x, rfl, hbB, hx, hcl⟩ := HH.out.at lk
      have hbl : b < w.heap.size := Nat.lt_of_lt_of_le hbB hB
      have hcw : ∀ j u, x[j]? = some u → wr.cell? ⟨b, o + k * 2 + j, none⟩ = some u := fun j u hj => (hbw.below.cell (p := ⟨b, o + k * 2 + j, none⟩) hbl).trans (hcl j u hj)
      have hcall := HP.out wr x l[k] hbw hx
      have hyes : p l[k] = true → idxI p l = k := fun h => idxI_take lk hn.out h
      have hno := fun h => take_any_succ (p := p) lk hn.out h
      have k0 : (0 : Int) ≤ (k : Int) := by omega
      have k1 : (k : Int) < (n : Int) := by omega
      clear hcl hn hbl
      generalize l[k] = y at *
      obtain rfl : x = [.string y.role, .string y.of] := hx
      have c0 := hcw 0 _ rfl
      rw [Nat.add_zero] at c0
      have c1 := hcw 1 _ rfl
      clear hcw
      cases hq : p y with
      | true =>
        rw [hq] at hcall
        have HY := Lib.hid (hyes hq)
        have HC := Lib.hid hcall
        clear hyes hno hq hcall
        go_wp2_with (go_at_fn g; refine HC.out.mono ?_; rintro e w' ⟨rfl, hb'⟩)
        go_ret
        exact ⟨by rw [HY.out]; rfl, hbw.trans hb'⟩
      | false =>
        rw [hq] at hcall
        have HN := Lib.hid (hno hq)
        have HC := Lib.hid hcall
        clear hyes hno hq hcall
        go_wp2_with (go_at_fn g; refine HC.out.mono ?_; rintro e w' ⟨rfl, hb'⟩)
        go_roundw
        case rel => exact ⟨k + 1, by omega, by go_num, HN, hbw.trans hb'⟩
        case measure => simp [intOf]; omega
    · have HF := Lib.hid (show idxI p l = -1 from idxI_all (by rw [HL.out]; omega) hn.out)
      go_wp2_with fail
      go_ret
      exact ⟨by rw [HF.out]; rfl, hbw⟩
set_option maxRecDepth 100000 in
theorem prog_memcf_any (B : Nat) (a : Option Addr) (n c : Nat) (l : List Mem) (g : Nat) (lb : Array Value) (p : Mem → Bool) (w : World) (h : Lst w (· < B) memP 2 (.slice a n c) l) (hB : B ≤ w.heap.size)
    (eg : ∀ args w, (callFunc g args).run Try.prog w = .ok (.enter g args) w)
    (hp : ∀ W x y, Gr w W → memP x y → Calls Try.prog g (#[.agg x.toArray] ++ lb) W fun e w' => e = .returned (.bool (p y)) ∧ Gr W w') :
    Calls Try.prog 47 #[.slice a n c, .func (.func g) #[] lb] w fun e w' => e = .returned (.bool (l.any p)) ∧ Gr w w' := by
  have HI := Lib.hid (prog_idx_mem B a n c l g lb p w h hB eg hp)
  have HE := Lib.hid (show l.any p = decide (0 ≤ idxI p l) by
    by_cases hi : idxI p l < 0
    · rw [decide_eq_false (by omega)]
      exact List.any_eq_false.2 fun x hx => by rw [idxI_neg hi x hx]; simp
    · rw [decide_eq_true (by omega)]
      obtain ⟨k, hk⟩ : ∃ k : Nat, idxI p l = k := ⟨(idxI p l).toNat, by omega⟩
      obtain ⟨h1, h2, _⟩ := idxI_get hk
      exact List.any_eq_true.2 ⟨_, List.getElem_mem h1, h2⟩)
  clear h hp
  generalize idxI p l = q at *
  go_enter Try.func47, Try.ntmps47
  go_wp2_with fail
  refine HI.out.mono ?_
  rintro e w2 ⟨rfl, g2⟩
  go_wp2_with fail
  go_ret
  exact ⟨by rw [HE.out]; rfl, g2⟩
set_option maxRecDepth 100000 in
theorem prog_drop1_any (b : Nat) (s : ByteArray) (x : List Value) (y : Mem) (W : World) (hb : W.cell? ⟨b, 0, none⟩ = some (.string s)) (hx : memP x y) :
    Calls Try.prog 46 #[.agg x.toArray, .pointer (some ⟨b, 0, none⟩)] W fun e w' => e = .returned (.bool (eqT y.role s || eqT y.of s)) ∧ Gr W w' := by
  obtain rfl : x = [.string y.role, .string y.of] := hx
  have hlt := World.block_lt_of_cell? W _ hb
  have hg := Gr.alloc W (.cells #[.string y.role, .string y.of] 45)
  have hb2 := (hg.below.cell (p := ⟨b, 0, none⟩) hlt).trans hb
  have hbx : ∀ (j : Nat) u, ([.string y.role, .string y.of])[j]? = some u → (W.alloc (.cells #[.string y.role, .string y.of] 45)).cell? ⟨W.heap.size, j, none⟩ = some u := fun j u hj => by
    rw [cell_of_row _ _ _ _ _ _ (heap_alloc_new W _)]
    simpa using hj
  have c0 := hbx 0 _ rfl
  have c1 := hbx 1 _ rfl
  clear hbx hlt hb
  cases hq : eqT y.role s with
  | true =>
    have e1 : (y.role.toList == s.toList) = true := hq
    clear hq
    go_enter Try.func46, Try.ntmps46
    go_wp2_with fail
    go_ret
    exact ⟨rfl, hg⟩
  | false =>
    have e1 : (y.role.toList == s.toList) = false := hq
    cases hq2 : eqT y.of s with
    | true =>
      have e2 : (y.of.toList == s.toList) = true := hq2
      clear hq hq2
      go_enter Try.func46, Try.ntmps46
      go_wp2_with fail
      go_ret
      exact ⟨rfl, hg⟩
    | false =>
      have e2 : (y.of.toList == s.toList) = false := hq2
      clear hq hq2
      go_enter Try.func46, Try.ntmps46
      go_wp2_with fail
      go_ret
      exact ⟨rfl, hg⟩

set_option maxRecDepth 100000 in
set_option maxHeartbeats 16000000 in
theorem prog_radd_any (B : Nat) (vn vm : Value) (r : Rols) (a : ByteArray) (w : World) (h : rolP w (· < B) [vn, vm] r) (hB : B ≤ w.heap.size) (hs : smallR 3000 r) (hsh : shortR r) (ha : a.size ≤ maxLen) :
    Calls Try.prog 14 #[.agg #[vn, vm], .string a] w (OutR w (addRF r a)) := by
  obtain ⟨na, nn, nc, ma, mn, mc, rfl, rfl, hnn, hmn, hnc, hmc, hnc2, hmc2, hn, hm⟩ := rol_form h
  obtain ⟨w0, hw0⟩ : ∃ w0, w0 = ((w.alloc (.cells #[.slice na nn nc, .slice ma mn mc] 25)).alloc (.cells #[.slice none 0 0, .slice none 0 0] 25)) := ⟨_, rfl⟩
  obtain ⟨q0, q1, hsz, hbw⟩ := boxes2 w (.cells #[.slice na nn nc, .slice ma mn mc] 25) (.cells #[.slice none 0 0, .slice none 0 0] 25)
  rw [← hw0] at q0 q1 hsz hbw
  have HI : Hid ((Try.prog.info? 25).map (·.size) = some 2) := Lib.hid (by kernel_rfl)
  have HON : Hid ((#[.slice none 0 0, .slice none 0 0] : Array Value).all (·.oneCell') = true) := Lib.hid (by kernel_rfl)
  have HRL := Lib.hid (fun W (hW : Below w0.heap.size w0 W) => (rol_on h hB (hbw.trans (hW.mono hbw.size)) : rolP W (· < B) [.slice na nn nc, .slice ma mn mc] r))
  have HBS := Lib.hid (fun W (hW : Below w0.heap.size w0 W) => (Nat.le_trans hB (hbw.trans (hW.mono hbw.size)).size : B ≤ W.heap.size))
  have HBL := Lib.hid (fun W (hW : Below w0.heap.size w0 W) => (hbw.trans (hW.mono hbw.size) : Below w.heap.size w W))
  have HQ0 := Lib.hid (fun W (hW : Below w0.heap.size w0 W) => ((hW.block w.heap.size (lt_of_block q0)).trans q0 : W.heap[w.heap.size]? = _))
  have HQ1 := Lib.hid (fun W (hW : Below w0.heap.size w0 W) => ((hW.block (w.heap.size + 1) (lt_of_block q1)).trans q1 : W.heap[w.heap.size + 1]? = _))
  have HCK := Lib.hid (fun W (hW : Below w0.heap.size w0 W) => prog_rcheck_any B _ _ r W (HRL.out W hW) (HBS.out W hW) hs hsh)
  have HB0 := Lib.hid (Below.refl w0.heap.size w0)
  have HNN := Lib.hid hnn; have HMN := Lib.hid hmn
  have HS3 := Lib.hid hs; have HSH := Lib.hid hsh; have HSZ := Lib.hid hsz; have HHB := Lib.hid hB
  have HTA := Lib.hid (fun W (hW : Below w0.heap.size w0 W) => prog_there_any B _ _ r a W (HRL.out W hW))
  have HCM := Lib.hid (fun W (hW : Below w0.heap.size w0 W) => (prog_copylist_mem ma mn mc (· < B) r.mems W (by obtain ⟨_, _, hv, _, hm2⟩ := HRL.out W hW; simp only [List.cons.injEq, and_true] at hv; obtain ⟨rfl, rfl⟩ := hv; exact hm2) (fun k hk => Nat.lt_of_lt_of_le hk (HBS.out W hW)) (by have := hs.2; omega)).mono (R' := InsLPost memQ W 45 2 r.mems) fun _ _ ⟨v, h1, h2, h3⟩ => ⟨v, h1, h2.flat (fun h => h), h3⟩)
  have HIS := Lib.hid (fun (hr : RightR r) (hni : a ∉ r.names) W (hW : Below w0.heap.size w0 W) => prog_insert_str B na nn nc r.names a W (by obtain ⟨_, _, hv, hn2, _⟩ := HRL.out W hW; simp only [List.cons.injEq, and_true] at hv; obtain ⟨rfl, rfl⟩ := hv; exact hn2) (HBS.out W hW) (by have := hs.1; omega) hr.rise (lt_flipT hni))
  clear h hn hm hs hsh q0 q1 hsz hbw hnn hmn hB ha hnc hmc hnc2 hmc2
  have x0 := box_at (HQ0.out w0 HB0.out) 0 rfl
  have x1 := box_at (HQ0.out w0 HB0.out) 1 rfl
  subst hw0
  go_enter Try.func14, Try.ntmps14
  go_wp2_with fail
  generalize World.alloc (World.alloc w _) _ = w0 at *
  refine (HCK.out w0 HB0.out).mono ?_
  rintro e w1 ⟨rfl, g⟩
  have HB1 := Lib.hid (below_on HB0.out (Nat.le_refl _) g)
  clear g
  have hok : okR r = if rightR r then 0 else 1 := rfl
  clear x0 x1
  have x0 := box_at (HQ0.out w1 HB1.out) 0 rfl
  have x1 := box_at (HQ0.out w1 HB1.out) 1 rfl
  cases h1 : rightR r with
  | false =>
    rw [h1] at hok
    rw [hok]
    clear hok
    have HF := Lib.hid (show addRF r a = (noR, 1) by unfold addRF; rw [if_pos (by rw [h1]; rfl)])
    have HG9 := Lib.hid (HQ1.out w1 HB1.out)
    have HROW9 := Lib.hid (setRow_heap _ _ _ #[.slice none 0 0, .slice none 0 0] _ _ HG9.out)
    go_wp2_with (refine wpList_store_box rfl 25 _ _ rfl (w.heap.size + 1) 25 _ #[.slice none 0 0, .slice none 0 0] rfl rfl HG9.out HI.out rfl HON.out ?_)
    refine bodyPost_ret (results_box_tmp rfl _ _ (w.heap.size + 1) _ _ (0, 0) _ rfl HROW9.out Try.underlying25 rfl HI.out) rfl ?_
    rw [HF.out]
    exact outR_no (HBL.out w1 HB1.out) (Nat.le_succ _)
  | true =>
    rw [h1] at hok
    rw [hok]
    clear hok
    have HR := Lib.hid (rightR_iff.1 h1)
    have HNA := Lib.hid (prog_is_any a w1)
    cases h2 : nameB a with
    | false =>
      rw [h2] at HNA
      have HH2 := Lib.hid h2; clear h2
      have HH1 := Lib.hid h1; clear h1
      go_wp2_with fail
      refine HNA.out.mono ?_
      rintro e w' ⟨rfl, rfl⟩
      have HF := Lib.hid (show addRF r a = (noR, 1) by unfold addRF; rw [if_pos (by rw [HH1.out, HH2.out]; rfl)])
      have HG9 := Lib.hid (HQ1.out w1 HB1.out)
      have HROW9 := Lib.hid (setRow_heap _ _ _ #[.slice none 0 0, .slice none 0 0] _ _ HG9.out)
      go_wp2_with (refine wpList_store_box rfl 25 _ _ rfl (w.heap.size + 1) 25 _ #[.slice none 0 0, .slice none 0 0] rfl rfl HG9.out HI.out rfl HON.out ?_)
      refine bodyPost_ret (results_box_tmp rfl _ _ (w.heap.size + 1) _ _ (0, 0) _ rfl HROW9.out Try.underlying25 rfl HI.out) rfl ?_
      rw [HF.out]
      exact outR_no (HBL.out w1 HB1.out) (Nat.le_succ _)
    | true =>
      rw [h2] at HNA
      have HJ1 := Lib.hid (show addRF r a = (if inB r.names a = true then (noR, 70) else if 16 ≤ r.names.length then (noR, 2) else (⟨insBy ltT a r.names, r.mems⟩, 0)) by unfold addRF; rw [if_neg (by rw [h1, h2]; simp)])
      clear h1 h2
      go_wp2_with fail
      refine HNA.out.mono ?_
      rintro e w' ⟨rfl, rfl⟩
      have HT1 := Lib.hid (HTA.out w1 HB1.out)
      cases h3 : inB r.names a with
      | true =>
        rw [h3] at HT1
        have HJ2 := Lib.hid (show addRF r a = (noR, 70) by rw [HJ1.out, if_pos h3])
        clear h3
        go_wp2_with fail
        refine (HT1.out).mono ?_
        rintro e w2 ⟨rfl, g⟩
        have HB2 := Lib.hid (below_on HB1.out (Nat.le_refl _) g.below)
        clear g
        clear x0 x1
        have HF := Lib.hid (show addRF r a = (noR, 70) by exact HJ2.out)
        have HG9 := Lib.hid (HQ1.out w2 HB2.out)
        have HROW9 := Lib.hid (setRow_heap _ _ _ #[.slice none 0 0, .slice none 0 0] _ _ HG9.out)
        go_wp2_with (refine wpList_store_box rfl 25 _ _ rfl (w.heap.size + 1) 25 _ #[.slice none 0 0, .slice none 0 0] rfl rfl HG9.out HI.out rfl HON.out ?_)
        refine bodyPost_ret (results_box_tmp rfl _ _ (w.heap.size + 1) _ _ (0, 0) _ rfl HROW9.out Try.underlying25 rfl HI.out) rfl ?_
        rw [HF.out]
        exact outR_no (HBL.out w2 HB2.out) (Nat.le_succ _)
      | false =>
        have HNI : Hid (a ∉ r.names) := Lib.hid (fun h => by rw [inB_iff.2 h] at h3; cases h3)
        rw [h3] at HT1
        have HJ2 := Lib.hid (show addRF r a = (if 16 ≤ r.names.length then (noR, 2) else (⟨insBy ltT a r.names, r.mems⟩, 0)) by rw [HJ1.out, if_neg (by rw [h3]; simp)])
        clear h3
        go_wp2_with fail
        refine (HT1.out).mono ?_
        rintro e w2 ⟨rfl, g⟩
        have HB2 := Lib.hid (below_on HB1.out (Nat.le_refl _) g.below)
        clear g
        clear x0 x1
        have x0 := box_at (HQ0.out w2 HB2.out) 0 rfl
        have x1 := box_at (HQ0.out w2 HB2.out) 1 rfl
        by_cases h4 : nn = 16
        · have n4 : (nn : Int) = 16 := by omega
          have HJ3 := Lib.hid (show addRF r a = (noR, 2) by rw [HJ2.out, if_pos (by rw [HNN.out]; omega)])
          clear h4
          have HF := Lib.hid (show addRF r a = (noR, 2) by exact HJ3.out)
          have HG9 := Lib.hid (HQ1.out w2 HB2.out)
          have HROW9 := Lib.hid (setRow_heap _ _ _ #[.slice none 0 0, .slice none 0 0] _ _ HG9.out)
          go_wp2_with (refine wpList_store_box rfl 25 _ _ rfl (w.heap.size + 1) 25 _ #[.slice none 0 0, .slice none 0 0] rfl rfl HG9.out HI.out rfl HON.out ?_)
          refine bodyPost_ret (results_box_tmp rfl _ _ (w.heap.size + 1) _ _ (0, 0) _ rfl HROW9.out Try.underlying25 rfl HI.out) rfl ?_
          rw [HF.out]
          exact outR_no (HBL.out w2 HB2.out) (Nat.le_succ _)
        · have n4 : ¬ ((nn : Int) = 16) := by omega
          have HINS := Lib.hid (HIS.out HR.out HNI.out)
          have HJ3 := Lib.hid (show addRF r a = (⟨insBy ltT a r.names, r.mems⟩, 0) by rw [HJ2.out, if_neg (by have := HR.out.few; rw [HNN.out] at this ⊢; omega)])
          clear h4
          have HF := Lib.hid (show addRF r a = ((⟨insBy ltT a r.names, r.mems⟩ : Rols), 0) by exact HJ3.out)
          have HBD := Lib.hid (show Below w0.heap.size w0 w2.drew from below_drawn HB2.out 1)
          go_wp2_with fail
          go_region_law (first
            | (go_simp
               first
               | (refine (HINS.out _ (hW := HBM.out)).mono ?_
                  intro e wN hp
                  obtain ⟨v, rfl, hv, hb⟩ := hp
                  obtain ⟨aN, cN, rfl, _, _⟩ := id hv.form
                  have HBE := Lib.hid (below_on HBM.out (Nat.le_refl _) hb)
                  have HVNE := Lib.hid (hv.mono str_stays (HBL.out _ HBM.out).size)
                  have HVME := Lib.hid (HVM.out.below mem_stays hb)
                  have z0 := box_at (HQ1.out _ HBE.out) 0 rfl
                  have z1 := box_at (HQ1.out _ HBE.out) 1 rfl
                  have f0 := frozen_of_row _ (w.heap.size + 1) 0 _ _ (HQ1.out _ HBE.out)
                  have f1 := frozen_of_row _ (w.heap.size + 1) 1 _ _ (HQ1.out _ HBE.out)
                  clear hv hb)
               | (refine (HINS.out _ (hW := HBD.out)).mono ?_
                  intro e wN hp
                  obtain ⟨v, rfl, hv, hb⟩ := hp
                  obtain ⟨aN, cN, rfl, _, _⟩ := id hv.form
                  have HBN := Lib.hid (below_on HBD.out (Nat.le_refl _) hb)
                  have HVN := Lib.hid (hv.mono str_stays (HBL.out _ HBD.out).size)
                  have x0 := box_at (HQ0.out _ HBN.out) 0 rfl
                  have x1 := box_at (HQ0.out _ HBN.out) 1 rfl
                  try have y0 := box_at (HQ2.out _ HBN.out) 0 rfl
                  try have y1 := box_at (HQ2.out _ HBN.out) 1 rfl
                  clear hv hb))
            | (go_simp
               first
               | (refine (HCM.out _ (hW := HBN.out)).mono ?_
                  intro e wM hp
                  obtain ⟨v, rfl, hv, hb⟩ := hp
                  obtain ⟨aM, cM, rfl, _, _⟩ := id hv.form
                  have HBE := Lib.hid (below_on HBN.out (Nat.le_refl _) hb)
                  have HVME := Lib.hid (hv.mono mem_stays (HBL.out _ HBN.out).size)
                  have HVNE := Lib.hid (HVN.out.below str_stays hb)
                  have z0 := box_at (HQ1.out _ HBE.out) 0 rfl
                  have z1 := box_at (HQ1.out _ HBE.out) 1 rfl
                  have f0 := frozen_of_row _ (w.heap.size + 1) 0 _ _ (HQ1.out _ HBE.out)
                  have f1 := frozen_of_row _ (w.heap.size + 1) 1 _ _ (HQ1.out _ HBE.out)
                  clear hv hb)
               | (refine (HCM.out _ (hW := HBD.out)).mono ?_
                  intro e wM hp
                  obtain ⟨v, rfl, hv, hb⟩ := hp
                  obtain ⟨aM, cM, rfl, _, _⟩ := id hv.form
                  have HBM := Lib.hid (below_on HBD.out (Nat.le_refl _) hb)
                  have HVM := Lib.hid (hv.mono mem_stays (HBL.out _ HBD.out).size)
                  have x0 := box_at (HQ0.out _ HBM.out) 0 rfl
                  have x1 := box_at (HQ0.out _ HBM.out) 1 rfl
                  try have y0 := box_at (HQ2.out _ HBM.out) 0 rfl
                  try have y1 := box_at (HQ2.out _ HBM.out) 1 rfl
                  clear hv hb)))
          all_goals
            have hr2 := cells_both (HQ1.out _ HBE.out) (.slice aN ((⟨insBy ltT a r.names, r.mems⟩ : Rols)).names.length cN) (.slice aM ((⟨insBy ltT a r.names, r.mems⟩ : Rols)).mems.length cM)
            have HR2 := Lib.hid hr2
            have HOUT := Lib.hid (outR_cells (c := 0) (r := (⟨insBy ltT a r.names, r.mems⟩ : Rols)) (HBL.out _ HBE.out) (Nat.le_succ _) (HQ1.out _ HBE.out) HVNE.out HVME.out)
            clear z0 z1 f0 f1 hr2
            go_wp2_with fail
            refine bodyPost_ret (results_box_tmp rfl _ _ (w.heap.size + 1) _ _ (0, 0) _ rfl HR2.out Try.underlying25 rfl HI.out) rfl ?_
            rw [HF.out]
            exact HOUT.out

set_option maxRecDepth 100000 in
set_option maxHeartbeats 16000000 in
theorem prog_rdrop_any (B : Nat) (vn vm : Value) (r : Rols) (a : ByteArray) (w : World) (h : rolP w (· < B) [vn, vm] r) (hB : B ≤ w.heap.size) (hs : smallR 3000 r) (hsh : shortR r) :
    Calls Try.prog 16 #[.agg #[vn, vm], .string a] w (OutR w (dropRF r a)) := by
  obtain ⟨na, nn, nc, ma, mn, mc, rfl, rfl, hnn, hmn, hnc, hmc, hnc2, hmc2, hn, hm⟩ := rol_form h
  obtain ⟨w0, hw0⟩ : ∃ w0, w0 = (((w.alloc (.cells #[.slice na nn nc, .slice ma mn mc] 25)).alloc (.cells #[.string a] 9)).alloc (.cells #[.slice none 0 0, .slice none 0 0] 25)) := ⟨_, rfl⟩
  obtain ⟨q0, q1, q2, hsz, hbw⟩ := boxes3 w (.cells #[.slice na nn nc, .slice ma mn mc] 25) (.cells #[.string a] 9) (.cells #[.slice none 0 0, .slice none 0 0] 25)
  rw [← hw0] at q0 q1 q2 hsz hbw
  have HI : Hid ((Try.prog.info? 25).map (·.size) = some 2) := Lib.hid (by kernel_rfl)
  have HON : Hid ((#[.slice none 0 0, .slice none 0 0] : Array Value).all (·.oneCell') = true) := Lib.hid (by kernel_rfl)
  have HRL := Lib.hid (fun W (hW : Below w0.heap.size w0 W) => (rol_on h hB (hbw.trans (hW.mono hbw.size)) : rolP W (· < B) [.slice na nn nc, .slice ma mn mc] r))
  have HBS := Lib.hid (fun W (hW : Below w0.heap.size w0 W) => (Nat.le_trans hB (hbw.trans (hW.mono hbw.size)).size : B ≤ W.heap.size))
  have HBL := Lib.hid (fun W (hW : Below w0.heap.size w0 W) => (hbw.trans (hW.mono hbw.size) : Below w.heap.size w W))
  have HQ0 := Lib.hid (fun W (hW : Below w0.heap.size w0 W) => ((hW.block w.heap.size (lt_of_block q0)).trans q0 : W.heap[w.heap.size]? = _))
  have HQ1 := Lib.hid (fun W (hW : Below w0.heap.size w0 W) => ((hW.block (w.heap.size + 1) (lt_of_block q1)).trans q1 : W.heap[w.heap.size + 1]? = _))
  have HQ2 := Lib.hid (fun W (hW : Below w0.heap.size w0 W) => ((hW.block (w.heap.size + 1 + 1) (lt_of_block q2)).trans q2 : W.heap[w.heap.size + 1 + 1]? = _))
  have HCK := Lib.hid (fun W (hW : Below w0.heap.size w0 W) => prog_rcheck_any B _ _ r W (HRL.out W hW) (HBS.out W hW) hs hsh)
  have HB0 := Lib.hid (Below.refl w0.heap.size w0)
  have HNN := Lib.hid hnn; have HMN := Lib.hid hmn
  have HS3 := Lib.hid hs; have HSH := Lib.hid hsh; have HSZ := Lib.hid hsz; have HHB := Lib.hid hB
  have HTA := Lib.hid (fun W (hW : Below w0.heap.size w0 W) => prog_there_any B _ _ r a W (HRL.out W hW))
  have HCM := Lib.hid (fun W (hW : Below w0.heap.size w0 W) => (prog_copylist_mem ma mn mc (· < B) r.mems W (by obtain ⟨_, _, hv, _, hm2⟩ := HRL.out W hW; simp only [List.cons.injEq, and_true] at hv; obtain ⟨rfl, rfl⟩ := hv; exact hm2) (fun k hk => Nat.lt_of_lt_of_le hk (HBS.out W hW)) (by have := hs.2; omega)).mono (R' := InsLPost memQ W 45 2 r.mems) fun _ _ ⟨v, h1, h2, h3⟩ => ⟨v, h1, h2.flat (fun h => h), h3⟩)
  have HCF := Lib.hid (fun W (hW : Below w0.heap.size w0 W) => (prog_memcf_any B ma mn mc r.mems 46 #[.pointer (some ⟨w.heap.size + 1, 0, none⟩)] (fun m => eqT m.role a || eqT m.of a) W (by obtain ⟨_, _, hv, _, hm2⟩ := HRL.out W hW; simp only [List.cons.injEq, and_true] at hv; obtain ⟨rfl, rfl⟩ := hv; exact hm2) (HBS.out W hW) (enters_of Try.func46 (by kernel_rfl) rfl) (fun W' x y hg hx => prog_drop1_any (w.heap.size + 1) a x y W' (box_at (HQ1.out W' (below_on hW (Nat.le_refl _) hg.below)) 0 rfl) hx)).mono (R' := fun e w' => e = .returned (.bool (usedBy r a)) ∧ Gr W w') fun _ _ h => h)
  have HIX := Lib.hid (fun W (hW : Below w0.heap.size w0 W) => prog_index_any na nn nc B r.names a W (by obtain ⟨_, _, hv, hn2, _⟩ := HRL.out W hW; simp only [List.cons.injEq, and_true] at hv; obtain ⟨rfl, rfl⟩ := hv; exact hn2))
  have HWN := Lib.hid (fun k (hk : k < nn) W (hW : Below w0.heap.size w0 W) => (prog_without_str na nn nc (· < B) r.names k W (by obtain ⟨_, _, hv, hn2, _⟩ := HRL.out W hW; simp only [List.cons.injEq, and_true] at hv; obtain ⟨rfl, rfl⟩ := hv; exact hn2) hk (fun k hk => Nat.lt_of_lt_of_le hk (HBS.out W hW)) (by have := hs.1; omega)).mono (R' := InsLPost strQ W 9 1 (r.names.eraseIdx k)) fun _ _ ⟨v, h1, h2, h3⟩ => ⟨v, h1, h2.flat (fun h => h), h3⟩)
  clear h hn hm hs hsh q0 q1 q2 hsz hbw hnn hmn hB hnc hmc hnc2 hmc2
  have x0 := box_at (HQ0.out w0 HB0.out) 0 rfl
  have x1 := box_at (HQ0.out w0 HB0.out) 1 rfl
  have y0 := box_at (HQ1.out w0 HB0.out) 0 rfl
  try have y1 := box_at (HQ1.out w0 HB0.out) 1 rfl
  subst hw0
  go_enter Try.func16, Try.ntmps16
  go_wp2_with fail
  generalize World.alloc (World.alloc (World.alloc w _) _) _ = w0 at *
  refine (HCK.out w0 HB0.out).mono ?_
  rintro e w1 ⟨rfl, g⟩
  have HB1 := Lib.hid (below_on HB0.out (Nat.le_refl _) g)
  clear g
  have hok : okR r = if rightR r then 0 else 1 := rfl
  clear x0 x1 y0; try clear y1
  have x0 := box_at (HQ0.out w1 HB1.out) 0 rfl
  have x1 := box_at (HQ0.out w1 HB1.out) 1 rfl
  have y0 := box_at (HQ1.out w1 HB1.out) 0 rfl
  try have y1 := box_at (HQ1.out w1 HB1.out) 1 rfl
  cases h1 : rightR r with
  | false =>
    rw [h1] at hok
    rw [hok]
    clear hok
    have HF := Lib.hid (show dropRF r a = (noR, 1) by unfold dropRF; rw [if_pos h1])
    have HG9 := Lib.hid (HQ2.out w1 HB1.out)
    have HROW9 := Lib.hid (setRow_heap _ _ _ #[.slice none 0 0, .slice none 0 0] _ _ HG9.out)
    go_wp2_with (refine wpList_store_box rfl 25 _ _ rfl (w.heap.size + 1 + 1) 25 _ #[.slice none 0 0, .slice none 0 0] rfl rfl HG9.out HI.out rfl HON.out ?_)
    refine bodyPost_ret (results_box_tmp rfl _ _ (w.heap.size + 1 + 1) _ _ (0, 0) _ rfl HROW9.out Try.underlying25 rfl HI.out) rfl ?_
    rw [HF.out]
    exact outR_no (HBL.out w1 HB1.out) (by omega)
  | true =>
    rw [h1] at hok
    rw [hok]
    clear hok
    have HR := Lib.hid (rightR_iff.1 h1)
    have HT1 := Lib.hid (HTA.out w1 HB1.out)
    cases h3 : inB r.names a with
    | false =>
      rw [h3] at HT1
      have HJ2 := Lib.hid (show dropRF r a = (noR, 71) by unfold dropRF; rw [if_neg (by rw [h1]; simp), if_pos h3])
      clear h3
      go_wp2_with fail
      refine (HT1.out).mono ?_
      rintro e w2 ⟨rfl, g⟩
      have HB2 := Lib.hid (below_on HB1.out (Nat.le_refl _) g.below)
      clear g
      clear x0 x1 y0; try clear y1
      have HF := Lib.hid (show dropRF r a = (noR, 71) by exact HJ2.out)
      have HG9 := Lib.hid (HQ2.out w2 HB2.out)
      have HROW9 := Lib.hid (setRow_heap _ _ _ #[.slice none 0 0, .slice none 0 0] _ _ HG9.out)
      go_wp2_with (refine wpList_store_box rfl 25 _ _ rfl (w.heap.size + 1 + 1) 25 _ #[.slice none 0 0, .slice none 0 0] rfl rfl HG9.out HI.out rfl HON.out ?_)
      refine bodyPost_ret (results_box_tmp rfl _ _ (w.heap.size + 1 + 1) _ _ (0, 0) _ rfl HROW9.out Try.underlying25 rfl HI.out) rfl ?_
      rw [HF.out]
      exact outR_no (HBL.out w2 HB2.out) (by omega)
    | true =>
      have HIN := Lib.hid (inB_iff.1 h3)
      rw [h3] at HT1
      have HJ2 := Lib.hid (show dropRF r a = (if usedBy r a = true then (noR, 73) else (⟨r.names.filter fun n => !eqT n a, r.mems⟩, 0)) by unfold dropRF; rw [if_neg (by rw [h1]; simp), if_neg (by rw [h3]; simp)])
      clear h3 h1
      go_wp2_with fail
      refine (HT1.out).mono ?_
      rintro e w2 ⟨rfl, g⟩
      have HB2 := Lib.hid (below_on HB1.out (Nat.le_refl _) g.below)
      clear g
      clear x0 x1 y0; try clear y1
      have x0 := box_at (HQ0.out w2 HB2.out) 0 rfl
      have x1 := box_at (HQ0.out w2 HB2.out) 1 rfl
      have y0 := box_at (HQ1.out w2 HB2.out) 0 rfl
      try have y1 := box_at (HQ1.out w2 HB2.out) 1 rfl
      have HF1 := Lib.hid (HCF.out w2 HB2.out)
      cases h4 : usedBy r a with
      | true =>
        rw [h4] at HF1
        have HJ3 := Lib.hid (show dropRF r a = (noR, 73) by rw [HJ2.out, if_pos h4])
        clear h4
        go_wp2_with fail
        refine (HF1.out).mono ?_
        rintro e w3 ⟨rfl, g⟩
        have HB3 := Lib.hid (below_on HB2.out (Nat.le_refl _) g.below)
        clear g
        clear x0 x1 y0; try clear y1
        have HF := Lib.hid (show dropRF r a = (noR, 73) by exact HJ3.out)
        have HG9 := Lib.hid (HQ2.out w3 HB3.out)
        have HROW9 := Lib.hid (setRow_heap _ _ _ #[.slice none 0 0, .slice none 0 0] _ _ HG9.out)
        go_wp2_with (refine wpList_store_box rfl 25 _ _ rfl (w.heap.size + 1 + 1) 25 _ #[.slice none 0 0, .slice none 0 0] rfl rfl HG9.out HI.out rfl HON.out ?_)
        refine bodyPost_ret (results_box_tmp rfl _ _ (w.heap.size + 1 + 1) _ _ (0, 0) _ rfl HROW9.out Try.underlying25 rfl HI.out) rfl ?_
        rw [HF.out]
        exact outR_no (HBL.out w3 HB3.out) (by omega)
      | false =>
        rw [h4] at HF1
        have HJ3 := Lib.hid (show dropRF r a = (⟨r.names.filter fun n => !eqT n a, r.mems⟩, 0) by rw [HJ2.out, if_neg (by rw [h4]; simp)])
        clear h4
        go_wp2_with fail
        refine (HF1.out).mono ?_
        rintro e w3 ⟨rfl, g⟩
        have HB3 := Lib.hid (below_on HB2.out (Nat.le_refl _) g.below)
        clear g
        clear x0 x1 y0; try clear y1
        have x0 := box_at (HQ0.out w3 HB3.out) 0 rfl
        have x1 := box_at (HQ0.out w3 HB3.out) 1 rfl
        have y0 := box_at (HQ1.out w3 HB3.out) 0 rfl
        try have y1 := box_at (HQ1.out w3 HB3.out) 1 rfl
        have hix := HIX.out w3 HB3.out
        obtain ⟨j, hj⟩ : ∃ j : Nat, idxI (fun x => eqT a x) r.names = j := by
          by_cases hi : idxI (fun x => eqT a x) r.names < 0
          · have := idxI_neg hi a HIN.out; rw [eqT_refl] at this; cases this
          · exact ⟨(idxI (fun x => eqT a x) r.names).toNat, by omega⟩
        have HJL := Lib.hid (show j < nn by obtain ⟨h, _⟩ := idxI_get hj; rw [HNN.out] at h; exact h)
        have HJ4 := Lib.hid (show dropRF r a = (⟨r.names.eraseIdx j, r.mems⟩, 0) by rw [HJ3.out, erase_filt HR.out.rise hj])
        rw [hj] at hix
        have HX1 := Lib.hid hix
        clear hix hj
        go_wp2_with fail
        refine HX1.out.mono ?_
        rintro e w' ⟨rfl, rfl⟩
        have HINS := Lib.hid (HWN.out j HJL.out)
        have HF := Lib.hid (show dropRF r a = ((⟨r.names.eraseIdx j, r.mems⟩ : Rols), 0) by exact HJ4.out)
        have HBD := Lib.hid (show Below w0.heap.size w0 w3.drew from below_drawn HB3.out 1)
        go_wp2_with fail
        go_region_law (first
          | (go_simp
             first
             | (refine (HINS.out _ (hW := HBM.out)).mono ?_
                intro e wN hp
                obtain ⟨v, rfl, hv, hb⟩ := hp
                obtain ⟨aN, cN, rfl, _, _⟩ := id hv.form
                have HBE := Lib.hid (below_on HBM.out (Nat.le_refl _) hb)
                have HVNE := Lib.hid (hv.mono str_stays (HBL.out _ HBM.out).size)
                have HVME := Lib.hid (HVM.out.below mem_stays hb)
                have z0 := box_at (HQ2.out _ HBE.out) 0 rfl
                have z1 := box_at (HQ2.out _ HBE.out) 1 rfl
                have f0 := frozen_of_row _ (w.heap.size + 1 + 1) 0 _ _ (HQ2.out _ HBE.out)
                have f1 := frozen_of_row _ (w.heap.size + 1 + 1) 1 _ _ (HQ2.out _ HBE.out)
                clear hv hb)
             | (refine (HINS.out _ (hW := HBD.out)).mono ?_
                intro e wN hp
                obtain ⟨v, rfl, hv, hb⟩ := hp
                obtain ⟨aN, cN, rfl, _, _⟩ := id hv.form
                have HBN := Lib.hid (below_on HBD.out (Nat.le_refl _) hb)
                have HVN := Lib.hid (hv.mono str_stays (HBL.out _ HBD.out).size)
                have x0 := box_at (HQ0.out _ HBN.out) 0 rfl
                have x1 := box_at (HQ0.out _ HBN.out) 1 rfl
                try have y0 := box_at (HQ1.out _ HBN.out) 0 rfl
                try have y1 := box_at (HQ1.out _ HBN.out) 1 rfl
                clear hv hb))
          | (go_simp
             first
             | (refine (HCM.out _ (hW := HBN.out)).mono ?_
                intro e wM hp
                obtain ⟨v, rfl, hv, hb⟩ := hp
                obtain ⟨aM, cM, rfl, _, _⟩ := id hv.form
                have HBE := Lib.hid (below_on HBN.out (Nat.le_refl _) hb)
                have HVME := Lib.hid (hv.mono mem_stays (HBL.out _ HBN.out).size)
                have HVNE := Lib.hid (HVN.out.below str_stays hb)
                have z0 := box_at (HQ2.out _ HBE.out) 0 rfl
                have z1 := box_at (HQ2.out _ HBE.out) 1 rfl
                have f0 := frozen_of_row _ (w.heap.size + 1 + 1) 0 _ _ (HQ2.out _ HBE.out)
                have f1 := frozen_of_row _ (w.heap.size + 1 + 1) 1 _ _ (HQ2.out _ HBE.out)
                clear hv hb)
             | (refine (HCM.out _ (hW := HBD.out)).mono ?_
                intro e wM hp
                obtain ⟨v, rfl, hv, hb⟩ := hp
                obtain ⟨aM, cM, rfl, _, _⟩ := id hv.form
                have HBM := Lib.hid (below_on HBD.out (Nat.le_refl _) hb)
                have HVM := Lib.hid (hv.mono mem_stays (HBL.out _ HBD.out).size)
                have x0 := box_at (HQ0.out _ HBM.out) 0 rfl
                have x1 := box_at (HQ0.out _ HBM.out) 1 rfl
                try have y0 := box_at (HQ1.out _ HBM.out) 0 rfl
                try have y1 := box_at (HQ1.out _ HBM.out) 1 rfl
                clear hv hb)))
        all_goals
          have hr2 := cells_both (HQ2.out _ HBE.out) (.slice aN ((⟨r.names.eraseIdx j, r.mems⟩ : Rols)).names.length cN) (.slice aM ((⟨r.names.eraseIdx j, r.mems⟩ : Rols)).mems.length cM)
          have HR2 := Lib.hid hr2
          have HOUT := Lib.hid (outR_cells (c := 0) (r := (⟨r.names.eraseIdx j, r.mems⟩ : Rols)) (HBL.out _ HBE.out) (by omega) (HQ2.out _ HBE.out) HVNE.out HVME.out)
          clear z0 z1 f0 f1 hr2
          go_wp2_with fail
          refine bodyPost_ret (results_box_tmp rfl _ _ (w.heap.size + 1 + 1) _ _ (0, 0) _ rfl HR2.out Try.underlying25 rfl HI.out) rfl ?_
          rw [HF.out]
          exact HOUT.out
end Go.Proofs.Ytekhkmhpeefenaa
