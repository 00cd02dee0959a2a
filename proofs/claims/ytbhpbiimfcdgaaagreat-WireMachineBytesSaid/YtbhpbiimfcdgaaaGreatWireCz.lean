/-
  The document's reader, by contract: machines (made by wip/gen_wire.py)
-/
import Derived.Test.YtbhpbiimfcdgaaaGreatWireCy
namespace Go.Proofs.YtbhpbiimfcdgaaaGreat
open Go.RowKit
set_option linter.unusedVariables false

set_option maxRecDepth 100000 in
set_option maxHeartbeats 8000000 in
theorem c_machine (p c : Nat) (B : Nat) (bs : List UInt8) (i : Nat) (bad : Bool) (w : World) (h : Cu w p c B bs i bad) :
    Calls Tryz.prog 26 #[.pointer (some ⟨p, 0, none⟩)] w (CPost w p c B bs shMachine i bad agg) := by
  obtain ⟨iDone, hiDone, hxDone, hyDone, hzDone⟩ := info_parts info_Done
  have hsDone : (Tryz.prog.info? 145).map (·.size) = some 5 := by kernel_rfl
  have HSDone := Lib.hid hsDone; clear hsDone
  obtain ⟨iLease, hiLease, hxLease, hyLease, hzLease⟩ := info_parts info_Lease
  have hsLease : (Tryz.prog.info? 150).map (·.size) = some 4 := by kernel_rfl
  have HSLease := Lib.hid hsLease; clear hsLease
  have hlo : ∀ g, w.heap.size ≤ g → B ≤ g ∧ g ≠ p ∧ g ≠ c := fun g hg => own_lt h hg
  have HLO := Lib.hid hlo; clear hlo
  have hlo2 : ∀ g, w.heap.size + 2 ≤ g → B ≤ g ∧ g ≠ p ∧ g ≠ c := fun g hg => HLO.out g (by omega)
  have HLO2 := Lib.hid hlo2; clear hlo2
  have hg := own_lt h (Nat.le_succ w.heap.size)
  have hp0 : Off2 p c w.heap.size := by have := own_lt h (Nat.le_refl w.heap.size); exact ⟨this.2.1, this.2.2⟩
  have hp1 : Off2 p c (w.heap.size + 1) := ⟨hg.2.1, hg.2.2⟩
  have C0 := (h.alloc (.cells #[.int .i64 0, .int .i64 0, .slice none 0 0, .slice none 0 0, .slice none 0 0, .slice none 0 0, .slice none 0 0, .slice none 0 0, .slice none 0 0, .int .i64 0] 46)).alloc (.cells #[.int .i64 0, .int .i64 0, .slice none 0 0, .slice none 0 0, .slice none 0 0, .slice none 0 0, .slice none 0 0, .slice none 0 0, .slice none 0 0, .int .i64 0] 46)
  have G0 : Keeps (Off2 p c) w ((w.alloc (.cells #[.int .i64 0, .int .i64 0, .slice none 0 0, .slice none 0 0, .slice none 0 0, .slice none 0 0, .slice none 0 0, .slice none 0 0, .slice none 0 0, .int .i64 0] 46)).alloc (.cells #[.int .i64 0, .int .i64 0, .slice none 0 0, .slice none 0 0, .slice none 0 0, .slice none 0 0, .slice none 0 0, .slice none 0 0, .slice none 0 0, .int .i64 0] 46)) := (Keeps.refl.alloc _).alloc _
  have A0 := Lib.hid (heap_alloc2_old w (.cells #[.int .i64 0, .int .i64 0, .slice none 0 0, .slice none 0 0, .slice none 0 0, .slice none 0 0, .slice none 0 0, .slice none 0 0, .slice none 0 0, .int .i64 0] 46) (.cells #[.int .i64 0, .int .i64 0, .slice none 0 0, .slice none 0 0, .slice none 0 0, .slice none 0 0, .slice none 0 0, .slice none 0 0, .slice none 0 0, .int .i64 0] 46))
  have D0 := Lib.hid (heap_alloc2_new w (.cells #[.int .i64 0, .int .i64 0, .slice none 0 0, .slice none 0 0, .slice none 0 0, .slice none 0 0, .slice none 0 0, .slice none 0 0, .slice none 0 0, .int .i64 0] 46) (.cells #[.int .i64 0, .int .i64 0, .slice none 0 0, .slice none 0 0, .slice none 0 0, .slice none 0 0, .slice none 0 0, .slice none 0 0, .slice none 0 0, .int .i64 0] 46))
  have hi : (Tryz.prog.info? 46).map (·.size) = some 10 := by kernel_rfl
  have HI := Lib.hid hi; clear hi
  have h1z : (#[.int .i64 0, .int .i64 0, .slice none 0 0, .slice none 0 0, .slice none 0 0, .slice none 0 0, .slice none 0 0, .slice none 0 0, .slice none 0 0, .int .i64 0] : Array Value).all (·.oneCell') = true := by kernel_rfl
  have H1Z := Lib.hid h1z; clear h1z
  have HNZ : Hid ((w.alloc (.cells #[.int .i64 0, .int .i64 0, .slice none 0 0, .slice none 0 0, .slice none 0 0, .slice none 0 0, .slice none 0 0, .slice none 0 0, .slice none 0 0, .int .i64 0] 46)).heap.size = w.heap.size + 1) := Lib.hid (by simp)
  go_enter Tryz.func26, Tryz.ntmps26
  go_wp2_with (refine wpList_store_last (w.alloc (.cells #[.int .i64 0, .int .i64 0, .slice none 0 0, .slice none 0 0, .slice none 0 0, .slice none 0 0, .slice none 0 0, .slice none 0 0, .slice none 0 0, .int .i64 0] 46)) rfl 46 _ _ rfl 46 #[.int .i64 0, .int .i64 0, .slice none 0 0, .slice none 0 0, .slice none 0 0, .slice none 0 0, .slice none 0 0, .slice none 0 0, .slice none 0 0, .int .i64 0] #[.int .i64 0, .int .i64 0, .slice none 0 0, .slice none 0 0, .slice none 0 0, .slice none 0 0, .slice none 0 0, .slice none 0 0, .slice none 0 0, .int .i64 0] (w.heap.size + 1) HNZ.out rfl rfl HI.out rfl H1Z.out ?_)
  refine (c_catalog p c B bs _ _ _ C0).mono ?_
  rintro e w1 ⟨K1, j1, bad1, q1, rfl, J1, C1, T1⟩
  obtain ⟨n0_0, n0_1, a0_2, l0_2, c0_2, a0_3, l0_3, c0_3, a0_4, l0_4, c0_4, a0_5, l0_5, c0_5, a0_6, l0_6, c0_6, rfl⟩ := typed_Catalog J1
  simp only [agg]
  have A1' := K1.row A0.out hp0
  have D1' := K1.row D0.out hp1
  have G1' := G0.trans K1
  have C1 := cu_sets (g := w.heap.size + 1) (o := 0) (vs := [.int .i64 n0_0, .int .i64 n0_1, .slice a0_2 l0_2 c0_2, .slice a0_3 l0_3 c0_3, .slice a0_4 l0_4 c0_4, .slice a0_5 l0_5 c0_5, .slice a0_6 l0_6 c0_6]) C1 hg
  have G1 : Keeps (Off2 p c) w (w1.setCells (w.heap.size + 1) 0 [.int .i64 n0_0, .int .i64 n0_1, .slice a0_2 l0_2 c0_2, .slice a0_3 l0_3 c0_3, .slice a0_4 l0_4 c0_4, .slice a0_5 l0_5 c0_5, .slice a0_6 l0_6 c0_6]) := keeps_sets G1' (by omega)
  have A1 := Lib.hid (row_sets (b := w.heap.size + 1) (o := 0) (vs := [.int .i64 n0_0, .int .i64 n0_1, .slice a0_2 l0_2 c0_2, .slice a0_3 l0_3 c0_3, .slice a0_4 l0_4 c0_4, .slice a0_5 l0_5 c0_5, .slice a0_6 l0_6 c0_6]) A1' (by omega))
  have D1 : Hid ((w1.setCells (w.heap.size + 1) 0 [.int .i64 n0_0, .int .i64 n0_1, .slice a0_2 l0_2 c0_2, .slice a0_3 l0_3 c0_3, .slice a0_4 l0_4 c0_4, .slice a0_5 l0_5 c0_5, .slice a0_6 l0_6 c0_6]).heap[w.heap.size + 1]? = some (.cells #[.int .i64 n0_0, .int .i64 n0_1, .slice a0_2 l0_2 c0_2, .slice a0_3 l0_3 c0_3, .slice a0_4 l0_4 c0_4, .slice a0_5 l0_5 c0_5, .slice a0_6 l0_6 c0_6, .slice none 0 0, .slice none 0 0, .int .i64 0] 46 (0, 0))) := Lib.hid (setCells_mid [.int .i64 n0_0, .int .i64 n0_1, .slice a0_2 l0_2 c0_2, .slice a0_3 l0_3 c0_3, .slice a0_4 l0_4 c0_4, .slice a0_5 l0_5 c0_5, .slice a0_6 l0_6 c0_6] [.int .i64 0, .int .i64 0, .slice none 0 0, .slice none 0 0, .slice none 0 0, .slice none 0 0, .slice none 0 0] [] [.slice none 0 0, .slice none 0 0, .int .i64 0] w1 rfl D1')
  have th := Lib.hid (there_row D1' 0 7 (by simp))
  have hs : (Tryz.prog.info? 34).map (·.size) = some 7 := by kernel_rfl
  have HS := Lib.hid hs; clear hs
  have ho := Lib.hid (all_oneCell_toArray (mkT_Catalog (n0 := n0_0) (n1 := n0_1) (a2 := a0_2) (l2 := l0_2) (c2 := c0_2) (a3 := a0_3) (l3 := l0_3) (c3 := c0_3) (a4 := a0_4) (l4 := l0_4) (c4 := c0_4) (a5 := a0_5) (l5 := l0_5) (c5 := c0_5) (a6 := a0_6) (l6 := l0_6) (c6 := c0_6)).one)
  obtain ⟨v1, hv1⟩ : ∃ v, w1.setCells (w.heap.size + 1) 0 [.int .i64 n0_0, .int .i64 n0_1, .slice a0_2 l0_2 c0_2, .slice a0_3 l0_3 c0_3, .slice a0_4 l0_4 c0_4, .slice a0_5 l0_5 c0_5, .slice a0_6 l0_6 c0_6] = v := ⟨_, rfl⟩
  rw [hv1] at C1 G1 A1 D1
  have HV1 := Lib.hid hv1; clear hv1
  clear A1' D1' G1'
  go_wp2_with (refine wpList_store_part rfl 34 _ _ rfl (w.heap.size + 1) 0 #[.int .i64 n0_0, .int .i64 n0_1, .slice a0_2 l0_2 c0_2, .slice a0_3 l0_3 c0_3, .slice a0_4 l0_4 c0_4, .slice a0_5 l0_5 c0_5, .slice a0_6 l0_6 c0_6] rfl rfl 7 rfl th.out HS.out ho.out v1 HV1.out ?_)
  clear th HS ho
  have T1 := Lib.hid T1
  refine (c_many p c B bs _ _ _ C1).mono ?_
  rintro e u2 ⟨K2, nn2, jm2, bm2, rfl, hn2, Cm2, MS2⟩
  have NS2 : CountAt bs _ _ nn2 jm2 bm2 := MS2
  have S2 := Lib.hid NS2; clear MS2 NS2
  have Am2 := Lib.hid (K2.row A1.out hp0)
  have Dm2 := Lib.hid (K2.row D1.out hp1)
  have Gm2 := G1.trans K2
  go_wp2_with fail
  go_loopw [5] (fun ic wr => ∃ (k j : Nat) (bad' : Bool) (o' : Value) (xs : List Value), k ≤ nn2 ∧ ic = .int .i64 k ∧ wr.ownsRow (w.heap.size + 2) 145 5 o' k xs ∧ Cu wr p c B bs j bad' ∧ Keeps (Off2 p c) w wr ∧ Hid (wr.heap[w.heap.size]? = some (.cells #[.int .i64 0, .int .i64 0, .slice none 0 0, .slice none 0 0, .slice none 0 0, .slice none 0 0, .slice none 0 0, .slice none 0 0, .slice none 0 0, .int .i64 0] 46 (0, 0))) ∧ Hid (wr.heap[w.heap.size + 1]? = some (.cells #[.int .i64 n0_0, .int .i64 n0_1, .slice a0_2 l0_2 c0_2, .slice a0_3 l0_3 c0_3, .slice a0_4 l0_4 c0_4, .slice a0_5 l0_5 c0_5, .slice a0_6 l0_6 c0_6, o', .slice none 0 0, .int .i64 0] 46 (0, 0))) ∧
    ((bm2 = false ∧ bad' = false ∧ ∃ ts, parseN (parse shDone) k (bs.drop jm2) = some (ts, bs.drop j)) ∨ (bad' = true ∧ (bm2 = true ∨ parseN (parse shDone) nn2 (bs.drop jm2) = none)))) (fun ic _ => nn2 - (intOf ic).toNat)
  case atStart => exact ⟨0, jm2, bm2, .slice none 0 0, [], Nat.zero_le _, rfl, World.ownsRow_nil _ _ _ _, Cm2, Gm2, Am2, Dm2, by cases bm2; exact .inl ⟨rfl, rfl, [], rfl⟩; exact .inr ⟨rfl, .inl rfl⟩⟩
  case round =>
    obtain ⟨l1, j2, bad', o', xs, hk2, rfl, hown, hC, hK, hA, hD, hS⟩ := hrel
    have hS := Lib.hid hS
    have hwr := hK.size
    obtain ⟨_, d1, _⟩ := hC.open_
    obtain ⟨a1, c1, rfl⟩ := own_form hown
    by_cases hgo : l1 < nn2 ∧ bad' = false
    · obtain ⟨hlt, rfl⟩ := hgo
      have hob := fun g hg => (World.ownsRow.lt hown g hg).1
      have HOB := Lib.hid hob; clear hob
      have hsn := fun (jj : Nat) (bb : Bool) (h : CStep bs shDone j2 false jj bb) => list_more hS.out h hlt
      have HSN := Lib.hid hsn; clear hsn
      have hge := HLO.out wr.heap.size (Nat.le_trans hwr (Nat.le_refl _))
      have C0' := hC.alloc (.cells #[.int .i64 0, .int .i64 0, .int .i64 0, .int .i64 0, .int .i64 0] 145)
      have E0 : Keeps (Off2 p c) w (wr.alloc (.cells #[.int .i64 0, .int .i64 0, .int .i64 0, .int .i64 0, .int .i64 0] 145)) := hK.alloc _
      have B0 := Lib.hid (heap_alloc_new wr (.cells #[.int .i64 0, .int .i64 0, .int .i64 0, .int .i64 0, .int .i64 0] 145))
      have O0 := Lib.hid (own_alloc hown (.cells #[.int .i64 0, .int .i64 0, .int .i64 0, .int .i64 0, .int .i64 0] 145))
      have DD0 := Lib.hid (row_alloc' (ob := (.cells #[.int .i64 0, .int .i64 0, .int .i64 0, .int .i64 0, .int .i64 0] 145)) hD.out)
      have AA0 := Lib.hid (row_alloc' (ob := (.cells #[.int .i64 0, .int .i64 0, .int .i64 0, .int .i64 0, .int .i64 0] 145)) hA.out)
      have hlD := lt_of_block hD.out
      have X0 := hC.ltp
      go_wp2_with fail
      refine (c_num p c B bs _ _ _ C0').mono ?_
      rintro e x1 ⟨KE1, jE1, bE1, qE1, rfl, JE1, CE1, TE1⟩
      obtain ⟨ne0, rfl⟩ := JE1
      simp only [one, List.headD_cons]
      have B1' := KE1.row B0.out ⟨hge.2.1, hge.2.2⟩
      have E1' := E0.trans KE1
      have O1' := own_off2 O0.out KE1 HLO2.out
      have DD1' := KE1.row DD0.out hp1
      have AA1' := KE1.row AA0.out hp0
      have cc := box_cell B1' 0 rfl
      have ff : x1.frozen? ⟨wr.heap.size, 0, none⟩ = false := frozen_of_row x1 _ 0 _ _ B1'
      have CE1 := cu_set (g := wr.heap.size) (o := 0) (v := .int .i64 ne0) CE1 hge
      have E1 : Keeps (Off2 p c) w (x1.setCell ⟨wr.heap.size, 0, none⟩ (.int .i64 ne0)) := keeps_set E1' hwr
      have B1 : Hid ((x1.setCell ⟨wr.heap.size, 0, none⟩ (.int .i64 ne0)).heap[wr.heap.size]? = some (.cells #[.int .i64 ne0, .int .i64 0, .int .i64 0, .int .i64 0, .int .i64 0] 145 (0, 0))) := Lib.hid (heap_setCell_same x1 wr.heap.size 0 _ _ (.int .i64 ne0) B1')
      have O1 := Lib.hid (own_set (b := wr.heap.size) (o := 0) (v := .int .i64 ne0) O1' (fun e => by have := (World.ownsRow.lt hown _ e).2; omega))
      have DD1 := Lib.hid (row_set (b := wr.heap.size) (o := 0) (v := .int .i64 ne0) DD1' (by omega))
      have AA1 := Lib.hid (row_set (b := wr.heap.size) (o := 0) (v := .int .i64 ne0) AA1' (by omega))
      clear B1' E1' O1' DD1' AA1'
      have TE1 := Lib.hid TE1
      go_wp2_with fail
      clear cc ff
      refine (c_num p c B bs _ _ _ CE1).mono ?_
      rintro e x2 ⟨KE2, jE2, bE2, qE2, rfl, JE2, CE2, TE2⟩
      obtain ⟨ne1, rfl⟩ := JE2
      simp only [one, List.headD_cons]
      have B2' := KE2.row B1.out ⟨hge.2.1, hge.2.2⟩
      have E2' := E1.trans KE2
      have O2' := own_off2 O1.out KE2 HLO2.out
      have DD2' := KE2.row DD1.out hp1
      have AA2' := KE2.row AA1.out hp0
      have cc := box_cell B2' 1 rfl
      have ff : x2.frozen? ⟨wr.heap.size, 1, none⟩ = false := frozen_of_row x2 _ 1 _ _ B2'
      have CE2 := cu_set (g := wr.heap.size) (o := 1) (v := .int .i64 ne1) CE2 hge
      have E2 : Keeps (Off2 p c) w (x2.setCell ⟨wr.heap.size, 1, none⟩ (.int .i64 ne1)) := keeps_set E2' hwr
      have B2 : Hid ((x2.setCell ⟨wr.heap.size, 1, none⟩ (.int .i64 ne1)).heap[wr.heap.size]? = some (.cells #[.int .i64 ne0, .int .i64 ne1, .int .i64 0, .int .i64 0, .int .i64 0] 145 (0, 0))) := Lib.hid (heap_setCell_same x2 wr.heap.size 1 _ _ (.int .i64 ne1) B2')
      have O2 := Lib.hid (own_set (b := wr.heap.size) (o := 1) (v := .int .i64 ne1) O2' (fun e => by have := (World.ownsRow.lt hown _ e).2; omega))
      have DD2 := Lib.hid (row_set (b := wr.heap.size) (o := 1) (v := .int .i64 ne1) DD2' (by omega))
      have AA2 := Lib.hid (row_set (b := wr.heap.size) (o := 1) (v := .int .i64 ne1) AA2' (by omega))
      clear B2' E2' O2' DD2' AA2'
      have TE2 := Lib.hid TE2
      go_wp2_with fail
      clear cc ff
      refine (c_num p c B bs _ _ _ CE2).mono ?_
      rintro e x3 ⟨KE3, jE3, bE3, qE3, rfl, JE3, CE3, TE3⟩
      obtain ⟨ne2, rfl⟩ := JE3
      simp only [one, List.headD_cons]
      have B3' := KE3.row B2.out ⟨hge.2.1, hge.2.2⟩
      have E3' := E2.trans KE3
      have O3' := own_off2 O2.out KE3 HLO2.out
      have DD3' := KE3.row DD2.out hp1
      have AA3' := KE3.row AA2.out hp0
      have cc := box_cell B3' 2 rfl
      have ff : x3.frozen? ⟨wr.heap.size, 2, none⟩ = false := frozen_of_row x3 _ 2 _ _ B3'
      have CE3 := cu_set (g := wr.heap.size) (o := 2) (v := .int .i64 ne2) CE3 hge
      have E3 : Keeps (Off2 p c) w (x3.setCell ⟨wr.heap.size, 2, none⟩ (.int .i64 ne2)) := keeps_set E3' hwr
      have B3 : Hid ((x3.setCell ⟨wr.heap.size, 2, none⟩ (.int .i64 ne2)).heap[wr.heap.size]? = some (.cells #[.int .i64 ne0, .int .i64 ne1, .int .i64 ne2, .int .i64 0, .int .i64 0] 145 (0, 0))) := Lib.hid (heap_setCell_same x3 wr.heap.size 2 _ _ (.int .i64 ne2) B3')
      have O3 := Lib.hid (own_set (b := wr.heap.size) (o := 2) (v := .int .i64 ne2) O3' (fun e => by have := (World.ownsRow.lt hown _ e).2; omega))
      have DD3 := Lib.hid (row_set (b := wr.heap.size) (o := 2) (v := .int .i64 ne2) DD3' (by omega))
      have AA3 := Lib.hid (row_set (b := wr.heap.size) (o := 2) (v := .int .i64 ne2) AA3' (by omega))
      clear B3' E3' O3' DD3' AA3'
      have TE3 := Lib.hid TE3
      go_wp2_with fail
      clear cc ff
      refine (c_num p c B bs _ _ _ CE3).mono ?_
      rintro e x4 ⟨KE4, jE4, bE4, qE4, rfl, JE4, CE4, TE4⟩
      obtain ⟨ne3, rfl⟩ := JE4
      simp only [one, List.headD_cons]
      have B4' := KE4.row B3.out ⟨hge.2.1, hge.2.2⟩
      have E4' := E3.trans KE4
      have O4' := own_off2 O3.out KE4 HLO2.out
      have DD4' := KE4.row DD3.out hp1
      have AA4' := KE4.row AA3.out hp0
      have cc := box_cell B4' 3 rfl
      have ff : x4.frozen? ⟨wr.heap.size, 3, none⟩ = false := frozen_of_row x4 _ 3 _ _ B4'
      have CE4 := cu_set (g := wr.heap.size) (o := 3) (v := .int .i64 ne3) CE4 hge
      have E4 : Keeps (Off2 p c) w (x4.setCell ⟨wr.heap.size, 3, none⟩ (.int .i64 ne3)) := keeps_set E4' hwr
      have B4 : Hid ((x4.setCell ⟨wr.heap.size, 3, none⟩ (.int .i64 ne3)).heap[wr.heap.size]? = some (.cells #[.int .i64 ne0, .int .i64 ne1, .int .i64 ne2, .int .i64 ne3, .int .i64 0] 145 (0, 0))) := Lib.hid (heap_setCell_same x4 wr.heap.size 3 _ _ (.int .i64 ne3) B4')
      have O4 := Lib.hid (own_set (b := wr.heap.size) (o := 3) (v := .int .i64 ne3) O4' (fun e => by have := (World.ownsRow.lt hown _ e).2; omega))
      have DD4 := Lib.hid (row_set (b := wr.heap.size) (o := 3) (v := .int .i64 ne3) DD4' (by omega))
      have AA4 := Lib.hid (row_set (b := wr.heap.size) (o := 3) (v := .int .i64 ne3) AA4' (by omega))
      clear B4' E4' O4' DD4' AA4'
      have TE4 := Lib.hid TE4
      go_wp2_with fail
      clear cc ff
      refine (c_num p c B bs _ _ _ CE4).mono ?_
      rintro e x5 ⟨KE5, jE5, bE5, qE5, rfl, JE5, CE5, TE5⟩
      obtain ⟨ne4, rfl⟩ := JE5
      simp only [one, List.headD_cons]
      have B5' := KE5.row B4.out ⟨hge.2.1, hge.2.2⟩
      have E5' := E4.trans KE5
      have O5' := own_off2 O4.out KE5 HLO2.out
      have DD5' := KE5.row DD4.out hp1
      have AA5' := KE5.row AA4.out hp0
      have cc := box_cell B5' 4 rfl
      have ff : x5.frozen? ⟨wr.heap.size, 4, none⟩ = false := frozen_of_row x5 _ 4 _ _ B5'
      have CE5 := cu_set (g := wr.heap.size) (o := 4) (v := .int .i64 ne4) CE5 hge
      have E5 : Keeps (Off2 p c) w (x5.setCell ⟨wr.heap.size, 4, none⟩ (.int .i64 ne4)) := keeps_set E5' hwr
      have B5 : Hid ((x5.setCell ⟨wr.heap.size, 4, none⟩ (.int .i64 ne4)).heap[wr.heap.size]? = some (.cells #[.int .i64 ne0, .int .i64 ne1, .int .i64 ne2, .int .i64 ne3, .int .i64 ne4] 145 (0, 0))) := Lib.hid (heap_setCell_same x5 wr.heap.size 4 _ _ (.int .i64 ne4) B5')
      have O5 := Lib.hid (own_set (b := wr.heap.size) (o := 4) (v := .int .i64 ne4) O5' (fun e => by have := (World.ownsRow.lt hown _ e).2; omega))
      have DD5 := Lib.hid (row_set (b := wr.heap.size) (o := 4) (v := .int .i64 ne4) DD5' (by omega))
      have AA5 := Lib.hid (row_set (b := wr.heap.size) (o := 4) (v := .int .i64 ne4) AA5' (by omega))
      clear B5' E5' O5' DD5' AA5'
      have TE5 := Lib.hid TE5
      obtain ⟨y1, hy1⟩ : ∃ y, x5.setCell ⟨wr.heap.size, 4, none⟩ (.int .i64 ne4) = y := ⟨_, rfl⟩
      have CE := CE5
      have EE := E5
      have BB := B5
      have OO := O5
      have DD := DD5
      have AA := AA5
      rw [hy1] at CE EE BB OO DD AA
      have HY1 := Lib.hid hy1; clear hy1
      have rngb := Lib.hid (box_range (cs := [.int .i64 ne0, .int .i64 ne1, .int .i64 ne2, .int .i64 ne3, .int .i64 ne4]) BB.out)
      have OWN := Lib.hid (own_alloc OO.out (.cells #[.int .i64 ne0, .int .i64 ne1, .int .i64 ne2, .int .i64 ne3, .int .i64 ne4] 145))
      have cD := box_cell DD.out 7 rfl
      have CB := CE
      have GB := EE
      have DB := row_alloc' (ob := (.cells #[.int .i64 ne0, .int .i64 ne1, .int .i64 ne2, .int .i64 ne3, .int .i64 ne4] 145)) DD.out
      have AB := row_alloc' (ob := (.cells #[.int .i64 ne0, .int .i64 ne1, .int .i64 ne2, .int .i64 ne3, .int .i64 ne4] 145)) AA.out
      have hsz1 := EE.size
      rw [← HY1.out] at rngb OWN cD
      go_wp2_with (first | (refine wpList_load_mid rfl 145 _ rfl wr.heap.size 0 rfl _ _ rngb.out Tryz.underlying145 rfl HSDone.out ?_) | (at_builtin; refine wpList_append_own_at _ rfl _ _ 43 rfl (w.heap.size + 2) 145 iDone _ 5 40 Tryz.underlying43 hiDone hxDone hyDone hzDone rfl (by decide) _ _ _ rfl OWN.out ⟨_, 0, none⟩ 1 1 [.int .i64 ne0, .int .i64 ne1, .int .i64 ne2, .int .i64 ne3, .int .i64 ne4] rfl rfl ?c21 ?c22 ?c23 ?c24 ?c25 ?_))
      case c21 => exact fun j u hu => cell_fresh_at _ _ _ _ (by simp) j u hu
      case c22 => exact (mkT_Done).one
      case c23 => unfold maxLen; omega
      case c24 => omega
      case c25 => rw [HY1.out]; have := lt_of_block DB; simp at this ⊢; omega
      intro o3 w3 hown3 hgrow _ hat3
      obtain ⟨ao3, co3, rfl⟩ := own_form hown3
      rw [HY1.out] at hgrow
      have hC3 : Cu w3 p c B bs _ _ := (CB.alloc (.cells #[.int .i64 ne0, .int .i64 ne1, .int .i64 ne2, .int .i64 ne3, .int .i64 ne4] 145)).keep fun g hg h => hgrow.block g hg fun e => by have := HLO2.out g (HOB.out g e.symm); omega
      have hK3 : Keeps (Off2 p c) w w3 := keeps_grown (GB.alloc (.cells #[.int .i64 ne0, .int .i64 ne1, .int .i64 ne2, .int .i64 ne3, .int .i64 ne4] 145)) hgrow (fun j hj => by have := HOB.out j hj; omega)
      have D3 := row_grown DB hgrow HOB.out (show w.heap.size + 1 < w.heap.size + 2 by omega)
      have A3 := row_grown AB hgrow HOB.out (show w.heap.size < w.heap.size + 2 by omega)
      have cD3 := box_cell D3 7 rfl
      have fD3 : w3.frozen? ⟨w.heap.size + 1, 7, none⟩ = false := frozen_of_row w3 _ 7 _ _ D3
      have C4 := cu_set (g := w.heap.size + 1) (o := 7) (v := .slice ao3 (l1 + 1) co3) hC3 hg
      have K4 : Keeps (Off2 p c) w (w3.setCell ⟨w.heap.size + 1, 7, none⟩ (.slice ao3 (l1 + 1) co3)) := keeps_set hK3 (by omega)
      have A4 := Lib.hid (row_set (b := w.heap.size + 1) (o := 7) (v := .slice ao3 (l1 + 1) co3) A3 (by omega))
      have D4 : Hid ((w3.setCell ⟨w.heap.size + 1, 7, none⟩ (.slice ao3 (l1 + 1) co3)).heap[w.heap.size + 1]? = some (.cells #[.int .i64 n0_0, .int .i64 n0_1, .slice a0_2 l0_2 c0_2, .slice a0_3 l0_3 c0_3, .slice a0_4 l0_4 c0_4, .slice a0_5 l0_5 c0_5, .slice a0_6 l0_6 c0_6, .slice ao3 (l1 + 1) co3, .slice none 0 0, .int .i64 0] 46 (0, 0))) := Lib.hid (heap_setCell_same w3 (w.heap.size + 1) 7 _ _ (.slice ao3 (l1 + 1) co3) D3)
      have own4 := Lib.hid (own_set (b := w.heap.size + 1) (o := 7) (v := .slice ao3 (l1 + 1) co3) hown3 (fun e => by have := (World.ownsRow.lt hown3 _ e).1; omega))
      clear hown3 hat3 cD D3 A3
      go_wp2_with fail
      go_roundw
      case rel => exact ⟨l1 + 1, _, _, _, _, by omega, by go_num, own4.out, C4, K4, A4, D4, HSN.out _ _ (TE1.out.two (TE2.out.two (TE3.out.two (TE4.out.two TE5.out))))⟩
      case measure => simp [intOf]; omega
    · have hex : l1 < nn2 ∧ bad' = true ∨ ¬ l1 < nn2 := by
        by_cases h : l1 < nn2
        · refine .inl ⟨h, ?_⟩
          cases bad' with
          | true => rfl
          | false => exact absurd ⟨h, rfl⟩ hgo
        · exact .inr h
      have T2 := list_cut S2.out hS.out (by rcases hex with ⟨_, h⟩ | h; exact .inr h; exact .inl (by omega))
      have T2 := Lib.hid T2
      have C2 := hC
      have G2 := hK
      have A2 := hA
      have D2 := hD
      clear hgo hS hown
      rcases hex with ⟨hlt, rfl⟩ | hlt
      all_goals
        go_wp2_with fail
        refine (c_many p c B bs _ _ _ C2).mono ?_
        rintro e u3 ⟨K3, nn3, jm3, bm3, rfl, hn3, Cm3, MS3⟩
        have NS3 : CountAt bs _ _ nn3 jm3 bm3 := MS3
        have S3 := Lib.hid NS3; clear MS3 NS3
        have Am3 := Lib.hid (K3.row A2.out hp0)
        have Dm3 := Lib.hid (K3.row D2.out hp1)
        have Gm3 := G2.trans K3
        go_wp2_with fail
        go_loopw [7] (fun ic wr => ∃ (k j : Nat) (bad' : Bool) (o' : Value) (xs : List Value), k ≤ nn3 ∧ ic = .int .i64 k ∧ wr.ownsRow (w.heap.size + 2) 150 4 o' k xs ∧ Cu wr p c B bs j bad' ∧ Keeps (Off2 p c) w wr ∧ Hid (wr.heap[w.heap.size]? = some (.cells #[.int .i64 0, .int .i64 0, .slice none 0 0, .slice none 0 0, .slice none 0 0, .slice none 0 0, .slice none 0 0, .slice none 0 0, .slice none 0 0, .int .i64 0] 46 (0, 0))) ∧ Hid (wr.heap[w.heap.size + 1]? = some (.cells #[.int .i64 n0_0, .int .i64 n0_1, .slice a0_2 l0_2 c0_2, .slice a0_3 l0_3 c0_3, .slice a0_4 l0_4 c0_4, .slice a0_5 l0_5 c0_5, .slice a0_6 l0_6 c0_6, .slice a1 l1 c1, o', .int .i64 0] 46 (0, 0))) ∧
          ((bm3 = false ∧ bad' = false ∧ ∃ ts, parseN (parse shLease) k (bs.drop jm3) = some (ts, bs.drop j)) ∨ (bad' = true ∧ (bm3 = true ∨ parseN (parse shLease) nn3 (bs.drop jm3) = none)))) (fun ic _ => nn3 - (intOf ic).toNat)
        case atStart => exact ⟨0, jm3, bm3, .slice none 0 0, [], Nat.zero_le _, rfl, World.ownsRow_nil _ _ _ _, Cm3, Gm3, Am3, Dm3, by cases bm3; exact .inl ⟨rfl, rfl, [], rfl⟩; exact .inr ⟨rfl, .inl rfl⟩⟩
        case round =>
          obtain ⟨l2, j3, bad', o', xs, hk3, rfl, hown, hC, hK, hA, hD, hS⟩ := hrel
          have hS := Lib.hid hS
          have hwr := hK.size
          obtain ⟨_, d1, _⟩ := hC.open_
          obtain ⟨a2, c2, rfl⟩ := own_form hown
          by_cases hgo : l2 < nn3 ∧ bad' = false
          · obtain ⟨hlt, rfl⟩ := hgo
            have hob := fun g hg => (World.ownsRow.lt hown g hg).1
            have HOB := Lib.hid hob; clear hob
            have hsn := fun (jj : Nat) (bb : Bool) (h : CStep bs shLease j3 false jj bb) => list_more hS.out h hlt
            have HSN := Lib.hid hsn; clear hsn
            have hge := HLO.out wr.heap.size (Nat.le_trans hwr (Nat.le_refl _))
            have C0' := hC.alloc (.cells #[.int .i64 0, .int .i64 0, .int .i64 0, .int .i64 0] 150)
            have E0 : Keeps (Off2 p c) w (wr.alloc (.cells #[.int .i64 0, .int .i64 0, .int .i64 0, .int .i64 0] 150)) := hK.alloc _
            have B0 := Lib.hid (heap_alloc_new wr (.cells #[.int .i64 0, .int .i64 0, .int .i64 0, .int .i64 0] 150))
            have O0 := Lib.hid (own_alloc hown (.cells #[.int .i64 0, .int .i64 0, .int .i64 0, .int .i64 0] 150))
            have DD0 := Lib.hid (row_alloc' (ob := (.cells #[.int .i64 0, .int .i64 0, .int .i64 0, .int .i64 0] 150)) hD.out)
            have AA0 := Lib.hid (row_alloc' (ob := (.cells #[.int .i64 0, .int .i64 0, .int .i64 0, .int .i64 0] 150)) hA.out)
            have hlD := lt_of_block hD.out
            have X0 := hC.ltp
            go_wp2_with fail
            refine (c_num p c B bs _ _ _ C0').mono ?_
            rintro e x1 ⟨KE1, jE1, bE1, qE1, rfl, JE1, CE1, TE1⟩
            obtain ⟨ne0, rfl⟩ := JE1
            simp only [one, List.headD_cons]
            have B1' := KE1.row B0.out ⟨hge.2.1, hge.2.2⟩
            have E1' := E0.trans KE1
            have O1' := own_off2 O0.out KE1 HLO2.out
            have DD1' := KE1.row DD0.out hp1
            have AA1' := KE1.row AA0.out hp0
            have cc := box_cell B1' 0 rfl
            have ff : x1.frozen? ⟨wr.heap.size, 0, none⟩ = false := frozen_of_row x1 _ 0 _ _ B1'
            have CE1 := cu_set (g := wr.heap.size) (o := 0) (v := .int .i64 ne0) CE1 hge
            have E1 : Keeps (Off2 p c) w (x1.setCell ⟨wr.heap.size, 0, none⟩ (.int .i64 ne0)) := keeps_set E1' hwr
            have B1 : Hid ((x1.setCell ⟨wr.heap.size, 0, none⟩ (.int .i64 ne0)).heap[wr.heap.size]? = some (.cells #[.int .i64 ne0, .int .i64 0, .int .i64 0, .int .i64 0] 150 (0, 0))) := Lib.hid (heap_setCell_same x1 wr.heap.size 0 _ _ (.int .i64 ne0) B1')
            have O1 := Lib.hid (own_set (b := wr.heap.size) (o := 0) (v := .int .i64 ne0) O1' (fun e => by have := (World.ownsRow.lt hown _ e).2; omega))
            have DD1 := Lib.hid (row_set (b := wr.heap.size) (o := 0) (v := .int .i64 ne0) DD1' (by omega))
            have AA1 := Lib.hid (row_set (b := wr.heap.size) (o := 0) (v := .int .i64 ne0) AA1' (by omega))
            clear B1' E1' O1' DD1' AA1'
            have TE1 := Lib.hid TE1
            go_wp2_with fail
            clear cc ff
            refine (c_num p c B bs _ _ _ CE1).mono ?_
            rintro e x2 ⟨KE2, jE2, bE2, qE2, rfl, JE2, CE2, TE2⟩
            obtain ⟨ne1, rfl⟩ := JE2
            simp only [one, List.headD_cons]
            have B2' := KE2.row B1.out ⟨hge.2.1, hge.2.2⟩
            have E2' := E1.trans KE2
            have O2' := own_off2 O1.out KE2 HLO2.out
            have DD2' := KE2.row DD1.out hp1
            have AA2' := KE2.row AA1.out hp0
            have cc := box_cell B2' 1 rfl
            have ff : x2.frozen? ⟨wr.heap.size, 1, none⟩ = false := frozen_of_row x2 _ 1 _ _ B2'
            have CE2 := cu_set (g := wr.heap.size) (o := 1) (v := .int .i64 ne1) CE2 hge
            have E2 : Keeps (Off2 p c) w (x2.setCell ⟨wr.heap.size, 1, none⟩ (.int .i64 ne1)) := keeps_set E2' hwr
            have B2 : Hid ((x2.setCell ⟨wr.heap.size, 1, none⟩ (.int .i64 ne1)).heap[wr.heap.size]? = some (.cells #[.int .i64 ne0, .int .i64 ne1, .int .i64 0, .int .i64 0] 150 (0, 0))) := Lib.hid (heap_setCell_same x2 wr.heap.size 1 _ _ (.int .i64 ne1) B2')
            have O2 := Lib.hid (own_set (b := wr.heap.size) (o := 1) (v := .int .i64 ne1) O2' (fun e => by have := (World.ownsRow.lt hown _ e).2; omega))
            have DD2 := Lib.hid (row_set (b := wr.heap.size) (o := 1) (v := .int .i64 ne1) DD2' (by omega))
            have AA2 := Lib.hid (row_set (b := wr.heap.size) (o := 1) (v := .int .i64 ne1) AA2' (by omega))
            clear B2' E2' O2' DD2' AA2'
            have TE2 := Lib.hid TE2
            go_wp2_with fail
            clear cc ff
            refine (c_num p c B bs _ _ _ CE2).mono ?_
            rintro e x3 ⟨KE3, jE3, bE3, qE3, rfl, JE3, CE3, TE3⟩
            obtain ⟨ne2, rfl⟩ := JE3
            simp only [one, List.headD_cons]
            have B3' := KE3.row B2.out ⟨hge.2.1, hge.2.2⟩
            have E3' := E2.trans KE3
            have O3' := own_off2 O2.out KE3 HLO2.out
            have DD3' := KE3.row DD2.out hp1
            have AA3' := KE3.row AA2.out hp0
            have cc := box_cell B3' 2 rfl
            have ff : x3.frozen? ⟨wr.heap.size, 2, none⟩ = false := frozen_of_row x3 _ 2 _ _ B3'
            have CE3 := cu_set (g := wr.heap.size) (o := 2) (v := .int .i64 ne2) CE3 hge
            have E3 : Keeps (Off2 p c) w (x3.setCell ⟨wr.heap.size, 2, none⟩ (.int .i64 ne2)) := keeps_set E3' hwr
            have B3 : Hid ((x3.setCell ⟨wr.heap.size, 2, none⟩ (.int .i64 ne2)).heap[wr.heap.size]? = some (.cells #[.int .i64 ne0, .int .i64 ne1, .int .i64 ne2, .int .i64 0] 150 (0, 0))) := Lib.hid (heap_setCell_same x3 wr.heap.size 2 _ _ (.int .i64 ne2) B3')
            have O3 := Lib.hid (own_set (b := wr.heap.size) (o := 2) (v := .int .i64 ne2) O3' (fun e => by have := (World.ownsRow.lt hown _ e).2; omega))
            have DD3 := Lib.hid (row_set (b := wr.heap.size) (o := 2) (v := .int .i64 ne2) DD3' (by omega))
            have AA3 := Lib.hid (row_set (b := wr.heap.size) (o := 2) (v := .int .i64 ne2) AA3' (by omega))
            clear B3' E3' O3' DD3' AA3'
            have TE3 := Lib.hid TE3
            go_wp2_with fail
            clear cc ff
            refine (c_num p c B bs _ _ _ CE3).mono ?_
            rintro e x4 ⟨KE4, jE4, bE4, qE4, rfl, JE4, CE4, TE4⟩
            obtain ⟨ne3, rfl⟩ := JE4
            simp only [one, List.headD_cons]
            have B4' := KE4.row B3.out ⟨hge.2.1, hge.2.2⟩
            have E4' := E3.trans KE4
            have O4' := own_off2 O3.out KE4 HLO2.out
            have DD4' := KE4.row DD3.out hp1
            have AA4' := KE4.row AA3.out hp0
            have cc := box_cell B4' 3 rfl
            have ff : x4.frozen? ⟨wr.heap.size, 3, none⟩ = false := frozen_of_row x4 _ 3 _ _ B4'
            have CE4 := cu_set (g := wr.heap.size) (o := 3) (v := .int .i64 ne3) CE4 hge
            have E4 : Keeps (Off2 p c) w (x4.setCell ⟨wr.heap.size, 3, none⟩ (.int .i64 ne3)) := keeps_set E4' hwr
            have B4 : Hid ((x4.setCell ⟨wr.heap.size, 3, none⟩ (.int .i64 ne3)).heap[wr.heap.size]? = some (.cells #[.int .i64 ne0, .int .i64 ne1, .int .i64 ne2, .int .i64 ne3] 150 (0, 0))) := Lib.hid (heap_setCell_same x4 wr.heap.size 3 _ _ (.int .i64 ne3) B4')
            have O4 := Lib.hid (own_set (b := wr.heap.size) (o := 3) (v := .int .i64 ne3) O4' (fun e => by have := (World.ownsRow.lt hown _ e).2; omega))
            have DD4 := Lib.hid (row_set (b := wr.heap.size) (o := 3) (v := .int .i64 ne3) DD4' (by omega))
            have AA4 := Lib.hid (row_set (b := wr.heap.size) (o := 3) (v := .int .i64 ne3) AA4' (by omega))
            clear B4' E4' O4' DD4' AA4'
            have TE4 := Lib.hid TE4
            obtain ⟨y1, hy1⟩ : ∃ y, x4.setCell ⟨wr.heap.size, 3, none⟩ (.int .i64 ne3) = y := ⟨_, rfl⟩
            have CE := CE4
            have EE := E4
            have BB := B4
            have OO := O4
            have DD := DD4
            have AA := AA4
            rw [hy1] at CE EE BB OO DD AA
            have HY1 := Lib.hid hy1; clear hy1
            have rngb := Lib.hid (box_range (cs := [.int .i64 ne0, .int .i64 ne1, .int .i64 ne2, .int .i64 ne3]) BB.out)
            have OWN := Lib.hid (own_alloc OO.out (.cells #[.int .i64 ne0, .int .i64 ne1, .int .i64 ne2, .int .i64 ne3] 150))
            have cD := box_cell DD.out 8 rfl
            have CB := CE
            have GB := EE
            have DB := row_alloc' (ob := (.cells #[.int .i64 ne0, .int .i64 ne1, .int .i64 ne2, .int .i64 ne3] 150)) DD.out
            have AB := row_alloc' (ob := (.cells #[.int .i64 ne0, .int .i64 ne1, .int .i64 ne2, .int .i64 ne3] 150)) AA.out
            have hsz1 := EE.size
            rw [← HY1.out] at rngb OWN cD
            go_wp2_with (first | (refine wpList_load_mid rfl 150 _ rfl wr.heap.size 0 rfl _ _ rngb.out Tryz.underlying150 rfl HSLease.out ?_) | (at_builtin; refine wpList_append_own_at _ rfl _ _ 44 rfl (w.heap.size + 2) 150 iLease _ 4 32 Tryz.underlying44 hiLease hxLease hyLease hzLease rfl (by decide) _ _ _ rfl OWN.out ⟨_, 0, none⟩ 1 1 [.int .i64 ne0, .int .i64 ne1, .int .i64 ne2, .int .i64 ne3] rfl rfl ?c31 ?c32 ?c33 ?c34 ?c35 ?_))
            case c31 => exact fun j u hu => cell_fresh_at _ _ _ _ (by simp) j u hu
            case c32 => exact (mkT_Lease).one
            case c33 => unfold maxLen; omega
            case c34 => omega
            case c35 => rw [HY1.out]; have := lt_of_block DB; simp at this ⊢; omega
            intro o3 w3 hown3 hgrow _ hat3
            obtain ⟨ao3, co3, rfl⟩ := own_form hown3
            rw [HY1.out] at hgrow
            have hC3 : Cu w3 p c B bs _ _ := (CB.alloc (.cells #[.int .i64 ne0, .int .i64 ne1, .int .i64 ne2, .int .i64 ne3] 150)).keep fun g hg h => hgrow.block g hg fun e => by have := HLO2.out g (HOB.out g e.symm); omega
            have hK3 : Keeps (Off2 p c) w w3 := keeps_grown (GB.alloc (.cells #[.int .i64 ne0, .int .i64 ne1, .int .i64 ne2, .int .i64 ne3] 150)) hgrow (fun j hj => by have := HOB.out j hj; omega)
            have D3 := row_grown DB hgrow HOB.out (show w.heap.size + 1 < w.heap.size + 2 by omega)
            have A3 := row_grown AB hgrow HOB.out (show w.heap.size < w.heap.size + 2 by omega)
            have cD3 := box_cell D3 8 rfl
            have fD3 : w3.frozen? ⟨w.heap.size + 1, 8, none⟩ = false := frozen_of_row w3 _ 8 _ _ D3
            have C4 := cu_set (g := w.heap.size + 1) (o := 8) (v := .slice ao3 (l2 + 1) co3) hC3 hg
            have K4 : Keeps (Off2 p c) w (w3.setCell ⟨w.heap.size + 1, 8, none⟩ (.slice ao3 (l2 + 1) co3)) := keeps_set hK3 (by omega)
            have A4 := Lib.hid (row_set (b := w.heap.size + 1) (o := 8) (v := .slice ao3 (l2 + 1) co3) A3 (by omega))
            have D4 : Hid ((w3.setCell ⟨w.heap.size + 1, 8, none⟩ (.slice ao3 (l2 + 1) co3)).heap[w.heap.size + 1]? = some (.cells #[.int .i64 n0_0, .int .i64 n0_1, .slice a0_2 l0_2 c0_2, .slice a0_3 l0_3 c0_3, .slice a0_4 l0_4 c0_4, .slice a0_5 l0_5 c0_5, .slice a0_6 l0_6 c0_6, .slice a1 l1 c1, .slice ao3 (l2 + 1) co3, .int .i64 0] 46 (0, 0))) := Lib.hid (heap_setCell_same w3 (w.heap.size + 1) 8 _ _ (.slice ao3 (l2 + 1) co3) D3)
            have own4 := Lib.hid (own_set (b := w.heap.size + 1) (o := 8) (v := .slice ao3 (l2 + 1) co3) hown3 (fun e => by have := (World.ownsRow.lt hown3 _ e).1; omega))
            clear hown3 hat3 cD D3 A3
            go_wp2_with fail
            go_roundw
            case rel => exact ⟨l2 + 1, _, _, _, _, by omega, by go_num, own4.out, C4, K4, A4, D4, HSN.out _ _ (TE1.out.two (TE2.out.two (TE3.out.two TE4.out)))⟩
            case measure => simp [intOf]; omega
          · have hex : l2 < nn3 ∧ bad' = true ∨ ¬ l2 < nn3 := by
              by_cases h : l2 < nn3
              · refine .inl ⟨h, ?_⟩
                cases bad' with
                | true => rfl
                | false => exact absurd ⟨h, rfl⟩ hgo
              · exact .inr h
            have T3 := list_cut S3.out hS.out (by rcases hex with ⟨_, h⟩ | h; exact .inr h; exact .inl (by omega))
            have T3 := Lib.hid T3
            have C3 := hC
            have G3 := hK
            have A3 := hA
            have D3 := hD
            clear hgo hS hown
            rcases hex with ⟨hlt, rfl⟩ | hlt
            all_goals
              go_wp2_with fail
              refine (c_num p c B bs _ _ _ C3).mono ?_
              rintro e w4 ⟨K4, j4, bad4, q4, rfl, J4, C4, T4⟩
              obtain ⟨n3, rfl⟩ := J4
              simp only [one, List.headD_cons]
              have A4' := K4.row A3.out hp0
              have D4' := K4.row D3.out hp1
              have G4' := G3.trans K4
              have cc := box_cell D4' 9 rfl
              have ff : w4.frozen? ⟨w.heap.size + 1, 9, none⟩ = false := frozen_of_row w4 _ 9 _ _ D4'
              have C4 := cu_set (g := w.heap.size + 1) (o := 9) (v := .int .i64 n3) C4 hg
              have G4 : Keeps (Off2 p c) w (w4.setCell ⟨w.heap.size + 1, 9, none⟩ (.int .i64 n3)) := keeps_set G4' (by omega)
              have A4 := Lib.hid (row_set (b := w.heap.size + 1) (o := 9) (v := .int .i64 n3) A4' (by omega))
              have D4 : Hid ((w4.setCell ⟨w.heap.size + 1, 9, none⟩ (.int .i64 n3)).heap[w.heap.size + 1]? = some (.cells #[.int .i64 n0_0, .int .i64 n0_1, .slice a0_2 l0_2 c0_2, .slice a0_3 l0_3 c0_3, .slice a0_4 l0_4 c0_4, .slice a0_5 l0_5 c0_5, .slice a0_6 l0_6 c0_6, .slice a1 l1 c1, .slice a2 l2 c2, .int .i64 n3] 46 (0, 0))) := Lib.hid (setCells_mid [.int .i64 n3] [.int .i64 0] [.int .i64 n0_0, .int .i64 n0_1, .slice a0_2 l0_2 c0_2, .slice a0_3 l0_3 c0_3, .slice a0_4 l0_4 c0_4, .slice a0_5 l0_5 c0_5, .slice a0_6 l0_6 c0_6, .slice a1 l1 c1, .slice a2 l2 c2] [] w4 rfl D4')
              clear A4' D4' G4'
              have T4 := Lib.hid T4
              have HA := Lib.hid (setRow_heap _ w.heap.size _ #[.int .i64 n0_0, .int .i64 n0_1, .slice a0_2 l0_2 c0_2, .slice a0_3 l0_3 c0_3, .slice a0_4 l0_4 c0_4, .slice a0_5 l0_5 c0_5, .slice a0_6 l0_6 c0_6, .slice a1 l1 c1, .slice a2 l2 c2, .int .i64 n3] _ _ A4.out)
              have rng := Lib.hid (box_range (cs := [.int .i64 n0_0, .int .i64 n0_1, .slice a0_2 l0_2 c0_2, .slice a0_3 l0_3 c0_3, .slice a0_4 l0_4 c0_4, .slice a0_5 l0_5 c0_5, .slice a0_6 l0_6 c0_6, .slice a1 l1 c1, .slice a2 l2 c2, .int .i64 n3]) D4.out)
              have h1 := Lib.hid (all_oneCell_toArray (mkT_Machine (n0_0 := n0_0) (n0_1 := n0_1) (a0_2 := a0_2) (l0_2 := l0_2) (c0_2 := c0_2) (a0_3 := a0_3) (l0_3 := l0_3) (c0_3 := c0_3) (a0_4 := a0_4) (l0_4 := l0_4) (c0_4 := c0_4) (a0_5 := a0_5) (l0_5 := l0_5) (c0_5 := c0_5) (a0_6 := a0_6) (l0_6 := l0_6) (c0_6 := c0_6) (a1 := a1) (l1 := l1) (c1 := c1) (a2 := a2) (l2 := l2) (c2 := c2) (n3 := n3)).one)
              go_wp2_with (first | (refine wpList_load_mid rfl 46 _ rfl (w.heap.size + 1) 0 rfl _ _ rng.out Tryz.underlying46 rfl HI.out ?_) | (refine wpList_store_row rfl 46 _ _ rfl w.heap.size 46 _ #[.int .i64 n0_0, .int .i64 n0_1, .slice a0_2 l0_2 c0_2, .slice a0_3 l0_3 c0_3, .slice a0_4 l0_4 c0_4, .slice a0_5 l0_5 c0_5, .slice a0_6 l0_6 c0_6, .slice a1 l1 c1, .slice a2 l2 c2, .int .i64 n3] rfl rfl A4.out HI.out rfl h1.out ?_))
              refine bodyPost_ret (results_cell_row rfl _ _ w.heap.size _ _ (0, 0) _ rfl HA.out Tryz.underlying46 rfl HI.out) rfl ?_
              exact ⟨G4.setRow (Nat.le_refl _) _, _, _, _, rfl, mkT_Machine, C4.setOwn (own_lt h (Nat.le_refl _)) (fun k hk => setRow_other _ _ _ _ hk), (T1.out.two (T2.out.two (T3.out.two T4.out)))⟩

end Go.Proofs.YtbhpbiimfcdgaaaGreat
