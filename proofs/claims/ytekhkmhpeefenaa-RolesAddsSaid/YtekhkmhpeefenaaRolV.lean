/-
  Layer 8, the document's answer, by contract: no, member, Leave. (Made by wip/gen_rref.py.)
-/
import Derived.Test.YtekhkmhpeefenaaRolQ
import Derived.Test.YtekhkmhpeefenaaRolI
namespace Go.Proofs.Ytekhkmhpeefenaa
set_option linter.unusedVariables false
open Go.RowKit Go.Sort Go.Shelf

theorem ref_rno_any (e : Int) (w : World) : Calls Try.prog 45 #[.int .i64 e] w fun e' w' => e' = .returned (.tuple #[.agg #[.slice none 0 0, .slice none 0 0], .int .i64 e]) ∧ Below w.heap.size w w' := by
  have HI : Hid ((Try.prog.info? 25).map (·.size) = some 2) := Lib.hid (by kernel_rfl)
  have HO2 : Hid ((#[.slice none 0 0, .slice none 0 0] : Array Value).all (·.oneCell') = true) := Lib.hid (by kernel_rfl)
  have hg := heap_alloc_new w (.cells #[.slice none 0 0, .slice none 0 0] 25)
  have HG := Lib.hid hg
  have HROW := Lib.hid (setRow_heap _ _ _ #[.slice none 0 0, .slice none 0 0] _ _ hg)
  clear hg
  go_enter Try.func45, Try.ntmps45
  go_wp2_with (refine wpList_store_box rfl 25 _ _ rfl w.heap.size 25 _ #[.slice none 0 0, .slice none 0 0] rfl rfl HG.out HI.out rfl HO2.out ?_)
  refine bodyPost_ret (results_box_tmp rfl _ _ w.heap.size _ _ (0, 0) _ rfl HROW.out Try.underlying25 rfl HI.out) rfl ?_
  refine ⟨rfl, ((Below.refl _ w).alloc (Nat.le_refl _) _).trans ⟨rfl, rfl, rfl, by simp, fun k hk => setRow_other _ _ _ _ (by omega)⟩⟩

theorem lit_memb (w : World) (a b : ByteArray) : Lst (w.alloc (.cells #[.string a, .string b] 45)) (fun _ => True) memP 2 (.slice (some ⟨w.heap.size, 0, none⟩) 1 1) [⟨a, b⟩] :=
  Lst.row [[.string a, .string b]] (heap_alloc_new w _) (by simp) trivial rfl rfl (by unfold maxLen; omega) fun i z y hz hy => by
    cases i with
    | zero => simp at hz hy; subst hz hy; rfl
    | succ i => simp at hz
theorem erase_take {α : Type} {l : List α} {j k : Nat} (hk : k < l.length) : (l.take (k + 1)).eraseIdx j = if k = j then (l.take k).eraseIdx j else (l.take k).eraseIdx j ++ [l[k]] := by
  rw [List.take_succ_eq_append_getElem hk]
  have hl : (l.take k).length = k := by rw [List.length_take]; omega
  by_cases h1 : k = j
  · subst h1
    rw [if_pos rfl, List.eraseIdx_append_of_length_le (by omega), hl]
    rw [List.eraseIdx_of_length_le (l := l.take k) (by omega)]
    simp
  · rw [if_neg h1]
    by_cases h2 : k < j
    · rw [List.eraseIdx_of_length_le (by simp; omega), List.eraseIdx_of_length_le (l := l.take k) (by omega)]
    · rw [List.eraseIdx_append_of_lt_length (by omega)]

set_option maxRecDepth 100000 in
set_option maxHeartbeats 4000000 in
theorem ref_rmember_any (B : Nat) (vn vm : Value) (r : Rols) (a b : ByteArray) (w : World) (h : rolP w (· < B) [vn, vm] r) (hB : B ≤ w.heap.size) :
    Calls Try.prog 55 #[.agg #[vn, vm], .string a, .string b] w fun e w' => e = .returned (.int .i64 (memIx r.mems ⟨a, b⟩)) ∧ Below w.heap.size w w' := by
  have hO := OpenR.start h hB
  obtain ⟨na, nn, nc, ma, mn, mc, rfl, rfl, hnn, hmn, hnc, hmc, hnc2, hmc2, hn, hm⟩ := rol_form h
  have HO := Lib.hid hO
  have x1 := hO.c1
  have HMN := Lib.hid hmn
  have hm3 : mn ≤ maxLen := Nat.le_trans hmc hmc2
  unfold maxLen at hm3
  clear h hn hm hO hB hnn hmn hnc hmc hnc2 hmc2
  go_enter Try.func55, Try.ntmps55
  go_wp2_with fail
  generalize World.alloc w _ = w0 at *
  go_loop [7] (fun i => ∃ k : Nat, k ≤ mn ∧ i = .int .i64 k ∧ Hid (∀ y ∈ r.mems.take k, decide ((⟨a, b⟩ : Mem) = y) = false)) (fun i => mn - (intOf i).toNat)
  case atStart => exact ⟨0, Nat.zero_le _, rfl, Lib.hid (by simp)⟩
  case round =>
    obtain ⟨k, hk, rfl, hn⟩ := hrel
    by_cases hlt : k < mn
    · have lk : k < r.mems.length := by rw [HMN.out]; exact hlt
      obtain ⟨_, _, _, _, _, _, _, _, _, _, _, _, _, _, _, hm2⟩ := rol_form HO.out.rol
      obtain ⟨bb, o, z, rfl, hbB, hz, hcl⟩ := hm2.at lk
      have hyes : decide ((⟨a, b⟩ : Mem) = r.mems[k]) = true → memIx r.mems ⟨a, b⟩ = k := fun h => idxI_take lk hn.out h
      have hno := fun h => take_any_succ (p := fun y => decide ((⟨a, b⟩ : Mem) = y)) lk hn.out h
      have k0 : (0 : Int) ≤ (k : Int) := by omega
      have k1 : (k : Int) < (mn : Int) := by omega
      generalize r.mems[k] = y at *
      obtain ⟨yr, yo⟩ := y
      obtain rfl : z = [.string yr, .string yo] := hz
      have c0 : w0.cell? ⟨bb, o + k * 2, none⟩ = _ := hcl 0 _ rfl
      have c1 := hcl 1 _ rfl
      have HKN := Lib.hid (show k + 1 ≤ mn by omega)
      clear hcl hn hm2
      cases hq1 : eqT yr a with
      | true =>
        have e1 : (yr.toList == a.toList) = true := hq1
        cases hq2 : eqT yo b with
        | true =>
          have e2 : (yo.toList == b.toList) = true := hq2
          have HY := Lib.hid (hyes (decide_eq_true (by rw [eqT_iff.1 hq1, eqT_iff.1 hq2])))
          clear hyes hno hq1 hq2
          go_wp2_with fail
          go_ret
          exact ⟨by rw [HY.out]; rfl, HO.out.below⟩
        | false =>
          have e2 : (yo.toList == b.toList) = false := hq2
          have HN := Lib.hid (hno (decide_eq_false (fun e => by cases e; exact eqT_no.1 hq2 rfl)))
          clear hyes hno hq1 hq2
          go_wp2_with fail
          go_round
          case rel => exact ⟨k + 1, HKN.out, by go_num, HN⟩
          case measure => have := HKN.out; simp [intOf]; omega
      | false =>
        have e1 : (yr.toList == a.toList) = false := hq1
        have HN := Lib.hid (hno (decide_eq_false (fun e => by cases e; exact eqT_no.1 hq1 rfl)))
        clear hyes hno hq1
        go_wp2_with fail
        go_round
        case rel => exact ⟨k + 1, HKN.out, by go_num, HN⟩
        case measure => have := HKN.out; simp [intOf]; omega
    · have HF := Lib.hid (show memIx r.mems ⟨a, b⟩ = -1 from idxI_all (by rw [HMN.out]; omega) hn.out)
      go_wp2_with fail
      go_ret
      exact ⟨by rw [HF.out]; rfl, HO.out.below⟩

set_option maxRecDepth 100000 in
set_option maxHeartbeats 16000000 in
theorem ref_rleave_any (B : Nat) (vn vm : Value) (r : Rols) (a b : ByteArray) (w : World) (h : rolP w (· < B) [vn, vm] r) (hB : B ≤ w.heap.size) (hs : smallR 3000 r) :
    Calls Try.prog 23 #[.agg #[vn, vm], .string a, .string b] w (OutR w (leaveF r a b)) := by
  obtain ⟨im, mi, mi0, mi1, mi2⟩ := info_parts memInfo
  obtain ⟨na, nn, nc, ma, mn, mc, rfl, rfl, hnn, hmn, hnc, hmc, hnc2, hmc2, hn, hm⟩ := rol_form h
  obtain ⟨w0, hw0⟩ : ∃ w0, w0 = ((w.alloc (.cells #[.slice na nn nc, .slice ma mn mc] 25)).alloc (.cells #[.slice none 0 0, .slice none 0 0] 25)) := ⟨_, rfl⟩
  obtain ⟨q0, q1, hsz, hbw⟩ := boxes2 w (.cells #[.slice na nn nc, .slice ma mn mc] 25) (.cells #[.slice none 0 0, .slice none 0 0] 25)
  rw [← hw0] at q0 q1 hsz hbw
  have HI : Hid ((Try.prog.info? 25).map (·.size) = some 2) := Lib.hid (by kernel_rfl)
  have HON : Hid ((#[.slice none 0 0, .slice none 0 0] : Array Value).all (·.oneCell') = true) := Lib.hid (by kernel_rfl)
  have HRL := Lib.hid (fun W (hW : Below w0.heap.size w0 W) => (rol_on h hB (hbw.trans (hW.mono hbw.size)) : rolP W (· < B) [.slice na nn nc, .slice ma mn mc] r))
  have HBS := Lib.hid (fun W (hW : Below w0.heap.size w0 W) => (Nat.le_trans hB (hbw.trans (hW.mono hbw.size)).size : B ≤ W.heap.size))
  have HBL := Lib.hid (fun W (hW : Below w0.heap.size w0 W) => (hbw.trans (hW.mono hbw.size) : Below w.heap.size w W))
  have HQ0 := Lib.hid (fun W (hW : Below w0.heap.size w0 W) => ((hW.block w.heap.size (lt_of_block q0)).trans q0 : W.heap[w.heap.size]? = _))
  have HQ1 := Lib.hid (fun W (hW : Below w0.heap.size w0 W) => ((hW.block (w.heap.size + 1) (lt_of_block q1)).trans q1 : W.heap[w.heap.size + 1]? = _))
  have HCK := Lib.hid (fun W (hW : Below w0.heap.size w0 W) => ref_rright_any B r _ _ W (HRL.out W hW) (HBS.out W hW))
  have HMB := Lib.hid (fun W (hW : Below w0.heap.size w0 W) => ref_rmember_any B _ _ r a b W (HRL.out W hW) (HBS.out W hW))
  have HOW := Lib.hid (fun W (hW : Below w0.heap.size w0 W) => ref_rown_any B _ _ r W (HRL.out W hW) (HBS.out W hW) hs)
  have HB0 := Lib.hid (Below.refl w0.heap.size w0)
  have HNN := Lib.hid hnn; have HMN := Lib.hid hmn
  have HSZ := Lib.hid hsz; have HHB := Lib.hid hB
  have HM3 := Lib.hid (show mn ≤ 3000 by have := hs.2; omega)
  clear h hn hm hs q0 q1 hsz hbw hnn hmn hB hnc hmc hnc2 hmc2
  have x0 := box_at (HQ0.out w0 HB0.out) 0 rfl
  have x1 := box_at (HQ0.out w0 HB0.out) 1 rfl
  subst hw0
  go_enter Try.func23, Try.ntmps23
  go_wp2_with fail
  generalize World.alloc (World.alloc w _) _ = w0 at *
  refine (HCK.out w0 HB0.out).mono ?_
  rintro e w1 ⟨rfl, g⟩
  have HB1 := Lib.hid (below_on HB0.out (Nat.le_refl _) g)
  clear g x0 x1
  have x0 := box_at (HQ0.out w1 HB1.out) 0 rfl
  have x1 := box_at (HQ0.out w1 HB1.out) 1 rfl
  cases h1 : rightR r with
  | false =>
    have HF := Lib.hid (show leaveF r a b = (noR, 1) by unfold leaveF; rw [if_pos h1])
    go_wp2_with fail
    refine (ref_rno_any 1 _).mono ?_
    rintro e w9 ⟨rfl, b9⟩
    have HB9 := Lib.hid (below_on HB1.out (Nat.le_refl _) b9)
    clear b9
    have HG9 := Lib.hid (HQ1.out w9 HB9.out)
    have HROW9 := Lib.hid (setRow_heap _ _ _ #[.slice none 0 0, .slice none 0 0] _ _ HG9.out)
    go_wp2_with (refine wpList_store_box rfl 25 _ _ rfl (w.heap.size + 1) 25 _ #[.slice none 0 0, .slice none 0 0] rfl rfl HG9.out HI.out rfl HON.out ?_)
    refine bodyPost_ret (results_box_tmp rfl _ _ (w.heap.size + 1) _ _ (0, 0) _ rfl HROW9.out Try.underlying25 rfl HI.out) rfl ?_
    rw [HF.out]
    exact outR_no (HBL.out w9 HB9.out) (Nat.le_succ _)
  | true =>
    have hidx : ∀ j : Nat, memIx r.mems ⟨a, b⟩ = j → j < mn := fun j hj => by have := idxI_lt (fun y => decide ((⟨a, b⟩ : Mem) = y)) r.mems; rw [HMN.out] at this; unfold memIx at hj; omega
    have hge : -1 ≤ memIx r.mems ⟨a, b⟩ := idxI_ge _ _
    have hlv : leaveF r a b = (if memIx r.mems ⟨a, b⟩ < 0 then (noR, 71) else (⟨r.names, r.mems.eraseIdx (memIx r.mems ⟨a, b⟩).toNat⟩, 0)) := by unfold leaveF; rw [if_neg (by rw [h1]; simp)]
    have HMB1 := Lib.hid (HMB.out w1 HB1.out)
    generalize memIx r.mems ⟨a, b⟩ = q at *
    by_cases h2 : q < 0
    · obtain rfl : q = -1 := by omega
      have HLV := Lib.hid hlv
      clear hidx hge hlv
      go_wp2_with fail
      refine HMB1.out.mono ?_
      rintro e w2 ⟨rfl, g⟩
      have HB2 := Lib.hid (below_on HB1.out (Nat.le_refl _) g)
      clear g x0 x1
      have HF := Lib.hid (show leaveF r a b = (noR, 71) by rw [HLV.out]; rfl)
      go_wp2_with fail
      refine (ref_rno_any 71 _).mono ?_
      rintro e w9 ⟨rfl, b9⟩
      have HB9 := Lib.hid (below_on HB2.out (Nat.le_refl _) b9)
      clear b9
      have HG9 := Lib.hid (HQ1.out w9 HB9.out)
      have HROW9 := Lib.hid (setRow_heap _ _ _ #[.slice none 0 0, .slice none 0 0] _ _ HG9.out)
      go_wp2_with (refine wpList_store_box rfl 25 _ _ rfl (w.heap.size + 1) 25 _ #[.slice none 0 0, .slice none 0 0] rfl rfl HG9.out HI.out rfl HON.out ?_)
      refine bodyPost_ret (results_box_tmp rfl _ _ (w.heap.size + 1) _ _ (0, 0) _ rfl HROW9.out Try.underlying25 rfl HI.out) rfl ?_
      rw [HF.out]
      exact outR_no (HBL.out w9 HB9.out) (Nat.le_succ _)
    · obtain ⟨j, rfl⟩ : ∃ j : Nat, q = j := ⟨q.toNat, by omega⟩
      have j0 : ¬ ((j : Int) < 0) := h2
      have HJ := Lib.hid (hidx j rfl)
      have HF := Lib.hid (show leaveF r a b = (⟨r.names, r.mems.eraseIdx j⟩, 0) by rw [hlv, if_neg h2]; rfl)
      clear hidx hge hlv h2
      go_wp2_with fail
      refine HMB1.out.mono ?_
      rintro e w2 ⟨rfl, g⟩
      have HB2 := Lib.hid (below_on HB1.out (Nat.le_refl _) g)
      clear g x0 x1
      have x0 := box_at (HQ0.out w2 HB2.out) 0 rfl
      have x1 := box_at (HQ0.out w2 HB2.out) 1 rfl
      go_wp2_with fail
      refine (HOW.out w2 HB2.out).mono ?_
      rintro e wO ⟨vn2, vm2, rfl, hvn, hvm, g⟩
      obtain ⟨na2, nc2, rfl, _, _⟩ := id hvn.form
      obtain ⟨ma2, mc2, rfl, _, _⟩ := id hvm.form
      rw [HNN.out] at hvn
      rw [HNN.out, HMN.out]
      have HBO := Lib.hid (below_on HB2.out (Nat.le_refl _) g)
      have HVN := Lib.hid (hvn.mono str_stays (HBL.out _ HB2.out).size)
      clear g hvn hvm x0 x1
      have hq8 := heap_alloc_new wO (.cells #[.slice na2 nn nc2, .slice ma2 mn mc2] 25)
      have hb8 := (Below.refl wO.heap.size wO).alloc (Nat.le_refl _) (.cells #[.slice na2 nn nc2, .slice ma2 mn mc2] 25)
      have HQ8' := Lib.hid hq8; have HB8 := Lib.hid hb8
      clear hq8 hb8
      have x1 := box_at (HQ0.out _ (below_on HBO.out (Nat.le_refl _) HB8.out)) 1 rfl
      go_wp2_with fail
      generalize World.alloc wO _ = wQ at *
      have HBQ := Lib.hid (below_on HBO.out (Nat.le_refl _) HB8.out)
      have HQ8 := Lib.hid (fun W (hW : Below wQ.heap.size wQ W) => ((hW.block wO.heap.size (lt_of_block HQ8'.out)).trans HQ8'.out : W.heap[wO.heap.size]? = _))
      have HA0 : Hid (OwnX memQ wQ wQ.heap.size 45 2 (.slice none 0 0) ([] : List Mem) ∧ Below wQ.heap.size wQ wQ) := Lib.hid ⟨OwnX.nil _ _ _ _ _, Below.refl _ _⟩
      clear x1
      go_loopw [10, 11] (fun v i wr => ∃ (acc : List Mem) (k : Nat) (va' : Option Addr) (cap' : Nat), v = .slice va' acc.length cap' ∧ i = .int .i64 k ∧ k ≤ mn ∧ Hid (acc = (r.mems.take k).eraseIdx j ∧ OwnX memQ wr wQ.heap.size 45 2 (.slice va' acc.length cap') acc ∧ Below wQ.heap.size wQ wr)) (fun _ i _ => mn - (intOf i).toNat)
      case atStart => exact ⟨[], 0, none, 0, rfl, rfl, Nat.zero_le _, Lib.hid ⟨by simp, HA0.out⟩⟩
      case round =>
        clear HA0
        obtain ⟨acc, k, va', cap', rfl, rfl, hk, HR⟩ := hrel
        obtain ⟨hac, hx, hb⟩ := HR.out
        have hb0 := below_on HBQ.out (Nat.le_refl _) hb
        have x1 := box_at (HQ0.out _ hb0) 1 rfl
        have hmn3 : mn ≤ 3000 := HM3.out
        by_cases hlt : k < mn
        · have lk : k < r.mems.length := by rw [HMN.out]; exact hlt
          obtain ⟨_, _, _, _, _, _, _, _, _, _, _, _, _, _, _, hm2⟩ := rol_form (HRL.out _ hb0)
          obtain ⟨bb, q, x, rfl, hbB, hxx, hcl⟩ := hm2.at lk
          have k0 : (0 : Int) ≤ (k : Int) := by omega
          have k1 : (k : Int) < (mn : Int) := by omega
          have het := erase_take (j := j) lk
          have hal : acc.length ≤ k := by rw [hac]; exact Nat.le_trans (List.length_eraseIdx_le _ _) (List.length_take_le _ _)
          generalize r.mems[k] = y at *
          obtain ⟨yr, yo⟩ := y
          obtain rfl : x = [.string yr, .string yo] := hxx
          have c0 : wr.cell? ⟨bb, q + k * 2, none⟩ = _ := hcl 0 _ rfl
          have c1 := hcl 1 _ rfl
          have HKN := Lib.hid (show k + 1 ≤ mn by omega)
          by_cases hj : k = j
          · subst hj
            have j1 : ((k : Int) = (k : Int)) := rfl
            have HN := Lib.hid (show acc = (r.mems.take (k + 1)).eraseIdx k ∧ OwnX memQ wr wQ.heap.size 45 2 (.slice va' acc.length cap') acc ∧ Below wQ.heap.size wQ wr from ⟨by rw [het, if_pos rfl, hac], hx, hb⟩)
            clear hac hx hb hb0 hm2 hcl het hal HR
            go_wp2_with fail
            go_roundw
            case rel => exact ⟨acc, k + 1, _, _, rfl, by go_num, HKN.out, HN⟩
            case measure => have := HKN.out; simp [intOf]; omega
          · have j1 : ¬ ((k : Int) = (j : Int)) := by omega
            have HN := Lib.hid (show acc ++ [⟨yr, yo⟩] = (r.mems.take (k + 1)).eraseIdx j by rw [het, if_neg hj, hac])
            have hal4 := (Below.refl _ wr).alloc (Nat.le_refl _) (.cells #[.string yr, .string yo] 45)
            have HLIT := Lib.hid (lit_memb wr yr yo)
            have HX4 := Lib.hid (hx.below mem_stays hal4)
            have HB4 := Lib.hid (below_on hb (Nat.le_refl _) hal4)
            have HZ4 := Lib.hid (show wQ.heap.size ≤ (wr.alloc (.cells #[.string yr, .string yo] 45)).heap.size from HB4.out.size)
            have HM4 := Lib.hid (show acc.length + 1 ≤ maxLen by have := HM3.out; unfold maxLen; omega)
            have HBY4 := Lib.hid (show ((acc.length + 1) + (acc.length + 1) / 4 + 192) * 32 ≤ 281474976710656 by have := HM3.out; omega)
            clear hac hx hb hb0 hm2 hcl het hal HR hal4
            go_wp2_with (at_builtin; refine wpList_append_flat rfl _ _ 23 rfl wQ.heap.size 45 im _ 2 32 Try.underlying23 mi mi0 mi1 mi2 rfl (by decide) mem_stays (fun h => h) rfl HX4.out rfl HLIT.out HM4.out HBY4.out HZ4.out ?_)
            intro v5 w5 hx5 hb5 _
            have hx5' := hx5
            obtain ⟨va5, cap5, rfl, _, _⟩ := hx5'.form
            have HFF := Lib.hid (And.intro HN.out (And.intro hx5 (HB4.out.trans hb5)))
            clear hx5 hb5 hx5'
            go_wp2_with fail
            go_roundw
            case rel => exact ⟨acc ++ [⟨yr, yo⟩], k + 1, _, _, rfl, by go_num, HKN.out, HFF⟩
            case measure => have := HKN.out; simp [intOf]; omega
        · obtain rfl : mn = k := by omega
          obtain rfl : acc = r.mems.eraseIdx j := by rw [hac, ← HMN.out, List.take_length]
          generalize wr = wF at *
          generalize va' = va at *
          generalize cap' = cap at *
          have HXF := Lib.hid hx; have HBF := Lib.hid hb; have HBWF0 := Lib.hid hb0
          have HBOF := Lib.hid (HB8.out.trans (hb.mono HB8.out.size)); have HBWF := Lib.hid (HBL.out _ hb0)
          have HWQ := Lib.hid (HBL.out _ HBQ.out).size
          clear hac hx hb hb0 HR
          have hr8 := HQ8.out wF HBF.out
          have x8z := frozen_of_row _ wO.heap.size 1 _ _ hr8
          have x81 := box_at hr8 1 rfl
          have hk8 : Keeps (· ≠ wO.heap.size) wF (wF.setCell ⟨wO.heap.size, 1, none⟩ (.slice va (r.mems.eraseIdx j).length cap)) := Keeps.refl.setCell (by simp) _
          have hr9 := heap_setCell_same wF wO.heap.size 1 _ _ (.slice va (r.mems.eraseIdx j).length cap) hr8
          have z0 := box_at hr9 0 rfl
          have z1 := box_at hr9 1 rfl
          have hmF := HXF.out.move (fun h => h) hk8 fun g hg => HXF.out.off hr8 (by decide) hg
          have hnO := HVN.out.below str_stays HBOF.out
          have hnF := hnO.move (fun h => h) hk8 fun g hg => hnO.off hr8 (by decide) hg
          have hbF : Below w.heap.size w (wF.setCell ⟨wO.heap.size, 1, none⟩ (.slice va (r.mems.eraseIdx j).length cap)) := (HBWF.out).trans (hk8.below HBWF.out.size fun j hj => by have := HBO.out.size; have := (HBL.out _ HBO.out).size; omega)
          have HGF := Lib.hid (hk8.row (HQ1.out wF HBWF0.out) (by have := HSZ.out; have := HBO.out.size; omega))
          have HMF := Lib.hid (hmF.mono mem_stays (show w.heap.size ≤ wQ.heap.size from HWQ.out)); have HNF := Lib.hid hnF; have HBFF := Lib.hid hbF
          have HOS : Hid ((#[.slice na2 nn nc2, .slice va (r.mems.eraseIdx j).length cap] : Array Value).all (·.oneCell') = true) := Lib.hid (by kernel_rfl)
          have HROWF := Lib.hid (setRow_heap _ _ _ #[.slice na2 nn nc2, .slice va (r.mems.eraseIdx j).length cap] _ _ HGF.out)
          clear hr8 hk8 hr9 hmF hnO hnF hbF
          go_wp2_with (refine wpList_store_box rfl 25 _ _ rfl (w.heap.size + 1) 25 _ #[.slice na2 nn nc2, .slice va (r.mems.eraseIdx j).length cap] rfl rfl HGF.out HI.out rfl HOS.out ?_)
          refine bodyPost_ret (results_box_tmp rfl _ _ (w.heap.size + 1) _ _ (0, 0) _ rfl HROWF.out Try.underlying25 rfl HI.out) rfl ?_
          rw [HF.out]
          exact outR_yes (c := 0) HBFF.out (Nat.le_succ _) HGF.out HNF.out HMF.out
end Go.Proofs.Ytekhkmhpeefenaa
