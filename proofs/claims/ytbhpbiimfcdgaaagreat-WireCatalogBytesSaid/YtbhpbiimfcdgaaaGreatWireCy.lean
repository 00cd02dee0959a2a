/-
  The document's reader, by contract: catalogs (made by wip/gen_wire.py)
-/
import Derived.Test.YtbhpbiimfcdgaaaGreatWireCx
namespace Go.Proofs.YtbhpbiimfcdgaaaGreat
open Go.RowKit
set_option linter.unusedVariables false

set_option maxRecDepth 100000 in
set_option maxHeartbeats 8000000 in
theorem c_catalog (p c : Nat) (B : Nat) (bs : List UInt8) (i : Nat) (bad : Bool) (w : World) (h : Cu w p c B bs i bad) :
    Calls Tryz.prog 17 #[.pointer (some ⟨p, 0, none⟩)] w (CPost w p c B bs shCatalog i bad agg) := by
  obtain ⟨iGrant, hiGrant, hxGrant, hyGrant, hzGrant⟩ := info_parts info_Grant
  have hsGrant : (Tryz.prog.info? 117).map (·.size) = some 6 := by kernel_rfl
  have HSGrant := Lib.hid hsGrant; clear hsGrant
  obtain ⟨iMember, hiMember, hxMember, hyMember, hzMember⟩ := info_parts info_Member
  have hsMember : (Tryz.prog.info? 112).map (·.size) = some 2 := by kernel_rfl
  have HSMember := Lib.hid hsMember; clear hsMember
  have hlo : ∀ g, w.heap.size ≤ g → B ≤ g ∧ g ≠ p ∧ g ≠ c := fun g hg => own_lt h hg
  have HLO := Lib.hid hlo; clear hlo
  have hlo2 : ∀ g, w.heap.size + 2 ≤ g → B ≤ g ∧ g ≠ p ∧ g ≠ c := fun g hg => HLO.out g (by omega)
  have HLO2 := Lib.hid hlo2; clear hlo2
  have hg := own_lt h (Nat.le_succ w.heap.size)
  have hp0 : Off2 p c w.heap.size := by have := own_lt h (Nat.le_refl w.heap.size); exact ⟨this.2.1, this.2.2⟩
  have hp1 : Off2 p c (w.heap.size + 1) := ⟨hg.2.1, hg.2.2⟩
  have C0 := (h.alloc (.cells #[.int .i64 0, .int .i64 0, .slice none 0 0, .slice none 0 0, .slice none 0 0, .slice none 0 0, .slice none 0 0] 34)).alloc (.cells #[.int .i64 0, .int .i64 0, .slice none 0 0, .slice none 0 0, .slice none 0 0, .slice none 0 0, .slice none 0 0] 34)
  have G0 : Keeps (Off2 p c) w ((w.alloc (.cells #[.int .i64 0, .int .i64 0, .slice none 0 0, .slice none 0 0, .slice none 0 0, .slice none 0 0, .slice none 0 0] 34)).alloc (.cells #[.int .i64 0, .int .i64 0, .slice none 0 0, .slice none 0 0, .slice none 0 0, .slice none 0 0, .slice none 0 0] 34)) := (Keeps.refl.alloc _).alloc _
  have A0 := Lib.hid (heap_alloc2_old w (.cells #[.int .i64 0, .int .i64 0, .slice none 0 0, .slice none 0 0, .slice none 0 0, .slice none 0 0, .slice none 0 0] 34) (.cells #[.int .i64 0, .int .i64 0, .slice none 0 0, .slice none 0 0, .slice none 0 0, .slice none 0 0, .slice none 0 0] 34))
  have D0 := Lib.hid (heap_alloc2_new w (.cells #[.int .i64 0, .int .i64 0, .slice none 0 0, .slice none 0 0, .slice none 0 0, .slice none 0 0, .slice none 0 0] 34) (.cells #[.int .i64 0, .int .i64 0, .slice none 0 0, .slice none 0 0, .slice none 0 0, .slice none 0 0, .slice none 0 0] 34))
  have hi : (Tryz.prog.info? 34).map (·.size) = some 7 := by kernel_rfl
  have HI := Lib.hid hi; clear hi
  have h1z : (#[.int .i64 0, .int .i64 0, .slice none 0 0, .slice none 0 0, .slice none 0 0, .slice none 0 0, .slice none 0 0] : Array Value).all (·.oneCell') = true := by kernel_rfl
  have H1Z := Lib.hid h1z; clear h1z
  have HNZ : Hid ((w.alloc (.cells #[.int .i64 0, .int .i64 0, .slice none 0 0, .slice none 0 0, .slice none 0 0, .slice none 0 0, .slice none 0 0] 34)).heap.size = w.heap.size + 1) := Lib.hid (by simp)
  go_enter Tryz.func17, Tryz.ntmps17
  go_wp2_with (refine wpList_store_last (w.alloc (.cells #[.int .i64 0, .int .i64 0, .slice none 0 0, .slice none 0 0, .slice none 0 0, .slice none 0 0, .slice none 0 0] 34)) rfl 34 _ _ rfl 34 #[.int .i64 0, .int .i64 0, .slice none 0 0, .slice none 0 0, .slice none 0 0, .slice none 0 0, .slice none 0 0] #[.int .i64 0, .int .i64 0, .slice none 0 0, .slice none 0 0, .slice none 0 0, .slice none 0 0, .slice none 0 0] (w.heap.size + 1) HNZ.out rfl rfl HI.out rfl H1Z.out ?_)
  refine (c_num p c B bs _ _ _ C0).mono ?_
  rintro e w1 ⟨K1, j1, bad1, q1, rfl, J1, C1, T1⟩
  obtain ⟨n0, rfl⟩ := J1
  simp only [one, List.headD_cons]
  have A1' := K1.row A0.out hp0
  have D1' := K1.row D0.out hp1
  have G1' := G0.trans K1
  have cc := box_cell D1' 0 rfl
  have ff : w1.frozen? ⟨w.heap.size + 1, 0, none⟩ = false := frozen_of_row w1 _ 0 _ _ D1'
  have C1 := cu_set (g := w.heap.size + 1) (o := 0) (v := .int .i64 n0) C1 hg
  have G1 : Keeps (Off2 p c) w (w1.setCell ⟨w.heap.size + 1, 0, none⟩ (.int .i64 n0)) := keeps_set G1' (by omega)
  have A1 := Lib.hid (row_set (b := w.heap.size + 1) (o := 0) (v := .int .i64 n0) A1' (by omega))
  have D1 : Hid ((w1.setCell ⟨w.heap.size + 1, 0, none⟩ (.int .i64 n0)).heap[w.heap.size + 1]? = some (.cells #[.int .i64 n0, .int .i64 0, .slice none 0 0, .slice none 0 0, .slice none 0 0, .slice none 0 0, .slice none 0 0] 34 (0, 0))) := Lib.hid (setCells_mid [.int .i64 n0] [.int .i64 0] [] [.int .i64 0, .slice none 0 0, .slice none 0 0, .slice none 0 0, .slice none 0 0, .slice none 0 0] w1 rfl D1')
  clear A1' D1' G1'
  go_wp2_with fail
  clear cc ff
  have T1 := Lib.hid T1
  refine (c_num p c B bs _ _ _ C1).mono ?_
  rintro e w2 ⟨K2, j2, bad2, q2, rfl, J2, C2, T2⟩
  obtain ⟨n1, rfl⟩ := J2
  simp only [one, List.headD_cons]
  have A2' := K2.row A1.out hp0
  have D2' := K2.row D1.out hp1
  have G2' := G1.trans K2
  have cc := box_cell D2' 1 rfl
  have ff : w2.frozen? ⟨w.heap.size + 1, 1, none⟩ = false := frozen_of_row w2 _ 1 _ _ D2'
  have C2 := cu_set (g := w.heap.size + 1) (o := 1) (v := .int .i64 n1) C2 hg
  have G2 : Keeps (Off2 p c) w (w2.setCell ⟨w.heap.size + 1, 1, none⟩ (.int .i64 n1)) := keeps_set G2' (by omega)
  have A2 := Lib.hid (row_set (b := w.heap.size + 1) (o := 1) (v := .int .i64 n1) A2' (by omega))
  have D2 : Hid ((w2.setCell ⟨w.heap.size + 1, 1, none⟩ (.int .i64 n1)).heap[w.heap.size + 1]? = some (.cells #[.int .i64 n0, .int .i64 n1, .slice none 0 0, .slice none 0 0, .slice none 0 0, .slice none 0 0, .slice none 0 0] 34 (0, 0))) := Lib.hid (setCells_mid [.int .i64 n1] [.int .i64 0] [.int .i64 n0] [.slice none 0 0, .slice none 0 0, .slice none 0 0, .slice none 0 0, .slice none 0 0] w2 rfl D2')
  clear A2' D2' G2'
  go_wp2_with fail
  clear cc ff
  have T2 := Lib.hid T2
  refine (c_objects p c B bs _ _ _ C2).mono ?_
  rintro e w3 ⟨K3, j3, bad3, q3, rfl, J3, C3, T3⟩
  obtain ⟨a2, l2, c2, a3, l3, c3, rfl⟩ := typed_Objects J3
  simp only [agg]
  have A3' := K3.row A2.out hp0
  have D3' := K3.row D2.out hp1
  have G3' := G2.trans K3
  have C3 := cu_sets (g := w.heap.size + 1) (o := 2) (vs := [.slice a2 l2 c2, .slice a3 l3 c3]) C3 hg
  have G3 : Keeps (Off2 p c) w (w3.setCells (w.heap.size + 1) 2 [.slice a2 l2 c2, .slice a3 l3 c3]) := keeps_sets G3' (by omega)
  have A3 := Lib.hid (row_sets (b := w.heap.size + 1) (o := 2) (vs := [.slice a2 l2 c2, .slice a3 l3 c3]) A3' (by omega))
  have D3 : Hid ((w3.setCells (w.heap.size + 1) 2 [.slice a2 l2 c2, .slice a3 l3 c3]).heap[w.heap.size + 1]? = some (.cells #[.int .i64 n0, .int .i64 n1, .slice a2 l2 c2, .slice a3 l3 c3, .slice none 0 0, .slice none 0 0, .slice none 0 0] 34 (0, 0))) := Lib.hid (setCells_mid [.slice a2 l2 c2, .slice a3 l3 c3] [.slice none 0 0, .slice none 0 0] [.int .i64 n0, .int .i64 n1] [.slice none 0 0, .slice none 0 0, .slice none 0 0] w3 rfl D3')
  have th := Lib.hid (there_row D3' 2 2 (by simp))
  have hs : (Tryz.prog.info? 27).map (·.size) = some 2 := by kernel_rfl
  have HS := Lib.hid hs; clear hs
  have ho := Lib.hid (all_oneCell_toArray (mkT_Objects (a0 := a2) (l0 := l2) (c0 := c2) (a1 := a3) (l1 := l3) (c1 := c3)).one)
  obtain ⟨v3, hv3⟩ : ∃ v, w3.setCells (w.heap.size + 1) 2 [.slice a2 l2 c2, .slice a3 l3 c3] = v := ⟨_, rfl⟩
  rw [hv3] at C3 G3 A3 D3
  have HV3 := Lib.hid hv3; clear hv3
  clear A3' D3' G3'
  go_wp2_with (refine wpList_store_part rfl 27 _ _ rfl (w.heap.size + 1) 2 #[.slice a2 l2 c2, .slice a3 l3 c3] rfl rfl 2 rfl th.out HS.out ho.out v3 HV3.out ?_)
  clear th HS ho
  have T3 := Lib.hid T3
  refine (c_listText p c B bs _ _ _ C3).mono ?_
  rintro e w4 ⟨K4, j4, bad4, q4, rfl, J4, C4, T4⟩
  obtain ⟨a4, l4, c4, rfl⟩ := J4
  simp only [one, List.headD_cons]
  have A4' := K4.row A3.out hp0
  have D4' := K4.row D3.out hp1
  have G4' := G3.trans K4
  have cc := box_cell D4' 4 rfl
  have ff : w4.frozen? ⟨w.heap.size + 1, 4, none⟩ = false := frozen_of_row w4 _ 4 _ _ D4'
  have C4 := cu_set (g := w.heap.size + 1) (o := 4) (v := .slice a4 l4 c4) C4 hg
  have G4 : Keeps (Off2 p c) w (w4.setCell ⟨w.heap.size + 1, 4, none⟩ (.slice a4 l4 c4)) := keeps_set G4' (by omega)
  have A4 := Lib.hid (row_set (b := w.heap.size + 1) (o := 4) (v := .slice a4 l4 c4) A4' (by omega))
  have D4 : Hid ((w4.setCell ⟨w.heap.size + 1, 4, none⟩ (.slice a4 l4 c4)).heap[w.heap.size + 1]? = some (.cells #[.int .i64 n0, .int .i64 n1, .slice a2 l2 c2, .slice a3 l3 c3, .slice a4 l4 c4, .slice none 0 0, .slice none 0 0] 34 (0, 0))) := Lib.hid (setCells_mid [.slice a4 l4 c4] [.slice none 0 0] [.int .i64 n0, .int .i64 n1, .slice a2 l2 c2, .slice a3 l3 c3] [.slice none 0 0, .slice none 0 0] w4 rfl D4')
  clear A4' D4' G4'
  go_wp2_with fail
  clear cc ff
  have T4 := Lib.hid T4
  refine (c_many p c B bs _ _ _ C4).mono ?_
  rintro e u5 ⟨K5, nn5, jm5, bm5, rfl, hn5, Cm5, MS5⟩
  have NS5 : CountAt bs _ _ nn5 jm5 bm5 := MS5
  have S5 := Lib.hid NS5; clear MS5 NS5
  have Am5 := Lib.hid (K5.row A4.out hp0)
  have Dm5 := Lib.hid (K5.row D4.out hp1)
  have Gm5 := G4.trans K5
  go_wp2_with fail
  go_loopw [5] (fun ic wr => ∃ (k j : Nat) (bad' : Bool) (o' : Value) (xs : List Value), k ≤ nn5 ∧ ic = .int .i64 k ∧ wr.ownsRow (w.heap.size + 2) 112 2 o' k xs ∧ Cu wr p c B bs j bad' ∧ Keeps (Off2 p c) w wr ∧ Hid (wr.heap[w.heap.size]? = some (.cells #[.int .i64 0, .int .i64 0, .slice none 0 0, .slice none 0 0, .slice none 0 0, .slice none 0 0, .slice none 0 0] 34 (0, 0))) ∧ Hid (wr.heap[w.heap.size + 1]? = some (.cells #[.int .i64 n0, .int .i64 n1, .slice a2 l2 c2, .slice a3 l3 c3, .slice a4 l4 c4, o', .slice none 0 0] 34 (0, 0))) ∧
    ((bm5 = false ∧ bad' = false ∧ ∃ ts, parseN (parse shMember) k (bs.drop jm5) = some (ts, bs.drop j)) ∨ (bad' = true ∧ (bm5 = true ∨ parseN (parse shMember) nn5 (bs.drop jm5) = none)))) (fun ic _ => nn5 - (intOf ic).toNat)
  case atStart => exact ⟨0, jm5, bm5, .slice none 0 0, [], Nat.zero_le _, rfl, World.ownsRow_nil _ _ _ _, Cm5, Gm5, Am5, Dm5, by cases bm5; exact .inl ⟨rfl, rfl, [], rfl⟩; exact .inr ⟨rfl, .inl rfl⟩⟩
  case round =>
    obtain ⟨l5, j5, bad', o', xs, hk5, rfl, hown, hC, hK, hA, hD, hS⟩ := hrel
    have hS := Lib.hid hS
    have hwr := hK.size
    obtain ⟨_, d1, _⟩ := hC.open_
    obtain ⟨a5, c5, rfl⟩ := own_form hown
    by_cases hgo : l5 < nn5 ∧ bad' = false
    · obtain ⟨hlt, rfl⟩ := hgo
      have hob := fun g hg => (World.ownsRow.lt hown g hg).1
      have HOB := Lib.hid hob; clear hob
      have hsn := fun (jj : Nat) (bb : Bool) (h : CStep bs shMember j5 false jj bb) => list_more hS.out h hlt
      have HSN := Lib.hid hsn; clear hsn
      have hge := HLO.out wr.heap.size (Nat.le_trans hwr (Nat.le_refl _))
      have C0' := hC.alloc (.cells #[.string ByteArray.empty, .string ByteArray.empty] 112)
      have E0 : Keeps (Off2 p c) w (wr.alloc (.cells #[.string ByteArray.empty, .string ByteArray.empty] 112)) := hK.alloc _
      have B0 := Lib.hid (heap_alloc_new wr (.cells #[.string ByteArray.empty, .string ByteArray.empty] 112))
      have O0 := Lib.hid (own_alloc hown (.cells #[.string ByteArray.empty, .string ByteArray.empty] 112))
      have DD0 := Lib.hid (row_alloc' (ob := (.cells #[.string ByteArray.empty, .string ByteArray.empty] 112)) hD.out)
      have AA0 := Lib.hid (row_alloc' (ob := (.cells #[.string ByteArray.empty, .string ByteArray.empty] 112)) hA.out)
      have hlD := lt_of_block hD.out
      have X0 := hC.ltp
      go_wp2_with fail
      refine (c_text p c B bs _ _ _ C0').mono ?_
      rintro e x1 ⟨KE1, jE1, bE1, qE1, rfl, JE1, CE1, TE1⟩
      obtain ⟨se0, rfl⟩ := JE1
      simp only [one, List.headD_cons]
      have B1' := KE1.row B0.out ⟨hge.2.1, hge.2.2⟩
      have E1' := E0.trans KE1
      have O1' := own_off2 O0.out KE1 HLO2.out
      have DD1' := KE1.row DD0.out hp1
      have AA1' := KE1.row AA0.out hp0
      have cc := box_cell B1' 0 rfl
      have ff : x1.frozen? ⟨wr.heap.size, 0, none⟩ = false := frozen_of_row x1 _ 0 _ _ B1'
      have CE1 := cu_set (g := wr.heap.size) (o := 0) (v := .string se0) CE1 hge
      have E1 : Keeps (Off2 p c) w (x1.setCell ⟨wr.heap.size, 0, none⟩ (.string se0)) := keeps_set E1' hwr
      have B1 : Hid ((x1.setCell ⟨wr.heap.size, 0, none⟩ (.string se0)).heap[wr.heap.size]? = some (.cells #[.string se0, .string ByteArray.empty] 112 (0, 0))) := Lib.hid (heap_setCell_same x1 wr.heap.size 0 _ _ (.string se0) B1')
      have O1 := Lib.hid (own_set (b := wr.heap.size) (o := 0) (v := .string se0) O1' (fun e => by have := (World.ownsRow.lt hown _ e).2; omega))
      have DD1 := Lib.hid (row_set (b := wr.heap.size) (o := 0) (v := .string se0) DD1' (by omega))
      have AA1 := Lib.hid (row_set (b := wr.heap.size) (o := 0) (v := .string se0) AA1' (by omega))
      clear B1' E1' O1' DD1' AA1'
      have TE1 := Lib.hid TE1
      go_wp2_with fail
      clear cc ff
      refine (c_text p c B bs _ _ _ CE1).mono ?_
      rintro e x2 ⟨KE2, jE2, bE2, qE2, rfl, JE2, CE2, TE2⟩
      obtain ⟨se1, rfl⟩ := JE2
      simp only [one, List.headD_cons]
      have B2' := KE2.row B1.out ⟨hge.2.1, hge.2.2⟩
      have E2' := E1.trans KE2
      have O2' := own_off2 O1.out KE2 HLO2.out
      have DD2' := KE2.row DD1.out hp1
      have AA2' := KE2.row AA1.out hp0
      have cc := box_cell B2' 1 rfl
      have ff : x2.frozen? ⟨wr.heap.size, 1, none⟩ = false := frozen_of_row x2 _ 1 _ _ B2'
      have CE2 := cu_set (g := wr.heap.size) (o := 1) (v := .string se1) CE2 hge
      have E2 : Keeps (Off2 p c) w (x2.setCell ⟨wr.heap.size, 1, none⟩ (.string se1)) := keeps_set E2' hwr
      have B2 : Hid ((x2.setCell ⟨wr.heap.size, 1, none⟩ (.string se1)).heap[wr.heap.size]? = some (.cells #[.string se0, .string se1] 112 (0, 0))) := Lib.hid (heap_setCell_same x2 wr.heap.size 1 _ _ (.string se1) B2')
      have O2 := Lib.hid (own_set (b := wr.heap.size) (o := 1) (v := .string se1) O2' (fun e => by have := (World.ownsRow.lt hown _ e).2; omega))
      have DD2 := Lib.hid (row_set (b := wr.heap.size) (o := 1) (v := .string se1) DD2' (by omega))
      have AA2 := Lib.hid (row_set (b := wr.heap.size) (o := 1) (v := .string se1) AA2' (by omega))
      clear B2' E2' O2' DD2' AA2'
      have TE2 := Lib.hid TE2
      obtain ⟨y1, hy1⟩ : ∃ y, x2.setCell ⟨wr.heap.size, 1, none⟩ (.string se1) = y := ⟨_, rfl⟩
      have CE := CE2
      have EE := E2
      have BB := B2
      have OO := O2
      have DD := DD2
      have AA := AA2
      rw [hy1] at CE EE BB OO DD AA
      have HY1 := Lib.hid hy1; clear hy1
      have rngb := Lib.hid (box_range (cs := [.string se0, .string se1]) BB.out)
      have OWN := Lib.hid (own_alloc OO.out (.cells #[.string se0, .string se1] 112))
      have cD := box_cell DD.out 5 rfl
      have CB := CE
      have GB := EE
      have DB := row_alloc' (ob := (.cells #[.string se0, .string se1] 112)) DD.out
      have AB := row_alloc' (ob := (.cells #[.string se0, .string se1] 112)) AA.out
      have hsz1 := EE.size
      rw [← HY1.out] at rngb OWN cD
      go_wp2_with (first | (refine wpList_load_mid rfl 112 _ rfl wr.heap.size 0 rfl _ _ rngb.out Tryz.underlying112 rfl HSMember.out ?_) | (at_builtin; refine wpList_append_own_at _ rfl _ _ 29 rfl (w.heap.size + 2) 112 iMember _ 2 32 Tryz.underlying29 hiMember hxMember hyMember hzMember rfl (by decide) _ _ _ rfl OWN.out ⟨_, 0, none⟩ 1 1 [.string se0, .string se1] rfl rfl ?c51 ?c52 ?c53 ?c54 ?c55 ?_))
      case c51 => exact fun j u hu => cell_fresh_at _ _ _ _ (by simp) j u hu
      case c52 => exact (mkT_Member).one
      case c53 => unfold maxLen; omega
      case c54 => omega
      case c55 => rw [HY1.out]; have := lt_of_block DB; simp at this ⊢; omega
      intro o3 w3 hown3 hgrow _ hat3
      obtain ⟨ao3, co3, rfl⟩ := own_form hown3
      rw [HY1.out] at hgrow
      have hC3 : Cu w3 p c B bs _ _ := (CB.alloc (.cells #[.string se0, .string se1] 112)).keep fun g hg h => hgrow.block g hg fun e => by have := HLO2.out g (HOB.out g e.symm); omega
      have hK3 : Keeps (Off2 p c) w w3 := keeps_grown (GB.alloc (.cells #[.string se0, .string se1] 112)) hgrow (fun j hj => by have := HOB.out j hj; omega)
      have D3 := row_grown DB hgrow HOB.out (show w.heap.size + 1 < w.heap.size + 2 by omega)
      have A3 := row_grown AB hgrow HOB.out (show w.heap.size < w.heap.size + 2 by omega)
      have cD3 := box_cell D3 5 rfl
      have fD3 : w3.frozen? ⟨w.heap.size + 1, 5, none⟩ = false := frozen_of_row w3 _ 5 _ _ D3
      have C4 := cu_set (g := w.heap.size + 1) (o := 5) (v := .slice ao3 (l5 + 1) co3) hC3 hg
      have K4 : Keeps (Off2 p c) w (w3.setCell ⟨w.heap.size + 1, 5, none⟩ (.slice ao3 (l5 + 1) co3)) := keeps_set hK3 (by omega)
      have A4 := Lib.hid (row_set (b := w.heap.size + 1) (o := 5) (v := .slice ao3 (l5 + 1) co3) A3 (by omega))
      have D4 : Hid ((w3.setCell ⟨w.heap.size + 1, 5, none⟩ (.slice ao3 (l5 + 1) co3)).heap[w.heap.size + 1]? = some (.cells #[.int .i64 n0, .int .i64 n1, .slice a2 l2 c2, .slice a3 l3 c3, .slice a4 l4 c4, .slice ao3 (l5 + 1) co3, .slice none 0 0] 34 (0, 0))) := Lib.hid (heap_setCell_same w3 (w.heap.size + 1) 5 _ _ (.slice ao3 (l5 + 1) co3) D3)
      have own4 := Lib.hid (own_set (b := w.heap.size + 1) (o := 5) (v := .slice ao3 (l5 + 1) co3) hown3 (fun e => by have := (World.ownsRow.lt hown3 _ e).1; omega))
      clear hown3 hat3 cD D3 A3
      go_wp2_with fail
      go_roundw
      case rel => exact ⟨l5 + 1, _, _, _, _, by omega, by go_num, own4.out, C4, K4, A4, D4, HSN.out _ _ (TE1.out.two TE2.out)⟩
      case measure => simp [intOf]; omega
    · have hex : l5 < nn5 ∧ bad' = true ∨ ¬ l5 < nn5 := by
        by_cases h : l5 < nn5
        · refine .inl ⟨h, ?_⟩
          cases bad' with
          | true => rfl
          | false => exact absurd ⟨h, rfl⟩ hgo
        · exact .inr h
      have T5 := list_cut S5.out hS.out (by rcases hex with ⟨_, h⟩ | h; exact .inr h; exact .inl (by omega))
      have T5 := Lib.hid T5
      have C5 := hC
      have G5 := hK
      have A5 := hA
      have D5 := hD
      clear hgo hS hown
      rcases hex with ⟨hlt, rfl⟩ | hlt
      all_goals
        go_wp2_with fail
        refine (c_many p c B bs _ _ _ C5).mono ?_
        rintro e u6 ⟨K6, nn6, jm6, bm6, rfl, hn6, Cm6, MS6⟩
        have NS6 : CountAt bs _ _ nn6 jm6 bm6 := MS6
        have S6 := Lib.hid NS6; clear MS6 NS6
        have Am6 := Lib.hid (K6.row A5.out hp0)
        have Dm6 := Lib.hid (K6.row D5.out hp1)
        have Gm6 := G5.trans K6
        go_wp2_with fail
        go_loopw [7] (fun ic wr => ∃ (k j : Nat) (bad' : Bool) (o' : Value) (xs : List Value), k ≤ nn6 ∧ ic = .int .i64 k ∧ wr.ownsRow (w.heap.size + 2) 117 6 o' k xs ∧ Cu wr p c B bs j bad' ∧ Keeps (Off2 p c) w wr ∧ Hid (wr.heap[w.heap.size]? = some (.cells #[.int .i64 0, .int .i64 0, .slice none 0 0, .slice none 0 0, .slice none 0 0, .slice none 0 0, .slice none 0 0] 34 (0, 0))) ∧ Hid (wr.heap[w.heap.size + 1]? = some (.cells #[.int .i64 n0, .int .i64 n1, .slice a2 l2 c2, .slice a3 l3 c3, .slice a4 l4 c4, .slice a5 l5 c5, o'] 34 (0, 0))) ∧
          ((bm6 = false ∧ bad' = false ∧ ∃ ts, parseN (parse shGrant) k (bs.drop jm6) = some (ts, bs.drop j)) ∨ (bad' = true ∧ (bm6 = true ∨ parseN (parse shGrant) nn6 (bs.drop jm6) = none)))) (fun ic _ => nn6 - (intOf ic).toNat)
        case atStart => exact ⟨0, jm6, bm6, .slice none 0 0, [], Nat.zero_le _, rfl, World.ownsRow_nil _ _ _ _, Cm6, Gm6, Am6, Dm6, by cases bm6; exact .inl ⟨rfl, rfl, [], rfl⟩; exact .inr ⟨rfl, .inl rfl⟩⟩
        case round =>
          obtain ⟨l6, j6, bad', o', xs, hk6, rfl, hown, hC, hK, hA, hD, hS⟩ := hrel
          have hS := Lib.hid hS
          have hwr := hK.size
          obtain ⟨_, d1, _⟩ := hC.open_
          obtain ⟨a6, c6, rfl⟩ := own_form hown
          by_cases hgo : l6 < nn6 ∧ bad' = false
          · obtain ⟨hlt, rfl⟩ := hgo
            have hob := fun g hg => (World.ownsRow.lt hown g hg).1
            have HOB := Lib.hid hob; clear hob
            have hsn := fun (jj : Nat) (bb : Bool) (h : CStep bs shGrant j6 false jj bb) => list_more hS.out h hlt
            have HSN := Lib.hid hsn; clear hsn
            have hge := HLO.out wr.heap.size (Nat.le_trans hwr (Nat.le_refl _))
            have C0' := hC.alloc (.cells #[.string ByteArray.empty, .string ByteArray.empty, .int .i64 0, .string ByteArray.empty, .string ByteArray.empty, .bool false] 117)
            have E0 : Keeps (Off2 p c) w (wr.alloc (.cells #[.string ByteArray.empty, .string ByteArray.empty, .int .i64 0, .string ByteArray.empty, .string ByteArray.empty, .bool false] 117)) := hK.alloc _
            have B0 := Lib.hid (heap_alloc_new wr (.cells #[.string ByteArray.empty, .string ByteArray.empty, .int .i64 0, .string ByteArray.empty, .string ByteArray.empty, .bool false] 117))
            have O0 := Lib.hid (own_alloc hown (.cells #[.string ByteArray.empty, .string ByteArray.empty, .int .i64 0, .string ByteArray.empty, .string ByteArray.empty, .bool false] 117))
            have DD0 := Lib.hid (row_alloc' (ob := (.cells #[.string ByteArray.empty, .string ByteArray.empty, .int .i64 0, .string ByteArray.empty, .string ByteArray.empty, .bool false] 117)) hD.out)
            have AA0 := Lib.hid (row_alloc' (ob := (.cells #[.string ByteArray.empty, .string ByteArray.empty, .int .i64 0, .string ByteArray.empty, .string ByteArray.empty, .bool false] 117)) hA.out)
            have hlD := lt_of_block hD.out
            have X0 := hC.ltp
            go_wp2_with fail
            refine (c_text p c B bs _ _ _ C0').mono ?_
            rintro e x1 ⟨KE1, jE1, bE1, qE1, rfl, JE1, CE1, TE1⟩
            obtain ⟨se0, rfl⟩ := JE1
            simp only [one, List.headD_cons]
            have B1' := KE1.row B0.out ⟨hge.2.1, hge.2.2⟩
            have E1' := E0.trans KE1
            have O1' := own_off2 O0.out KE1 HLO2.out
            have DD1' := KE1.row DD0.out hp1
            have AA1' := KE1.row AA0.out hp0
            have cc := box_cell B1' 0 rfl
            have ff : x1.frozen? ⟨wr.heap.size, 0, none⟩ = false := frozen_of_row x1 _ 0 _ _ B1'
            have CE1 := cu_set (g := wr.heap.size) (o := 0) (v := .string se0) CE1 hge
            have E1 : Keeps (Off2 p c) w (x1.setCell ⟨wr.heap.size, 0, none⟩ (.string se0)) := keeps_set E1' hwr
            have B1 : Hid ((x1.setCell ⟨wr.heap.size, 0, none⟩ (.string se0)).heap[wr.heap.size]? = some (.cells #[.string se0, .string ByteArray.empty, .int .i64 0, .string ByteArray.empty, .string ByteArray.empty, .bool false] 117 (0, 0))) := Lib.hid (heap_setCell_same x1 wr.heap.size 0 _ _ (.string se0) B1')
            have O1 := Lib.hid (own_set (b := wr.heap.size) (o := 0) (v := .string se0) O1' (fun e => by have := (World.ownsRow.lt hown _ e).2; omega))
            have DD1 := Lib.hid (row_set (b := wr.heap.size) (o := 0) (v := .string se0) DD1' (by omega))
            have AA1 := Lib.hid (row_set (b := wr.heap.size) (o := 0) (v := .string se0) AA1' (by omega))
            clear B1' E1' O1' DD1' AA1'
            have TE1 := Lib.hid TE1
            go_wp2_with fail
            clear cc ff
            refine (c_text p c B bs _ _ _ CE1).mono ?_
            rintro e x2 ⟨KE2, jE2, bE2, qE2, rfl, JE2, CE2, TE2⟩
            obtain ⟨se1, rfl⟩ := JE2
            simp only [one, List.headD_cons]
            have B2' := KE2.row B1.out ⟨hge.2.1, hge.2.2⟩
            have E2' := E1.trans KE2
            have O2' := own_off2 O1.out KE2 HLO2.out
            have DD2' := KE2.row DD1.out hp1
            have AA2' := KE2.row AA1.out hp0
            have cc := box_cell B2' 1 rfl
            have ff : x2.frozen? ⟨wr.heap.size, 1, none⟩ = false := frozen_of_row x2 _ 1 _ _ B2'
            have CE2 := cu_set (g := wr.heap.size) (o := 1) (v := .string se1) CE2 hge
            have E2 : Keeps (Off2 p c) w (x2.setCell ⟨wr.heap.size, 1, none⟩ (.string se1)) := keeps_set E2' hwr
            have B2 : Hid ((x2.setCell ⟨wr.heap.size, 1, none⟩ (.string se1)).heap[wr.heap.size]? = some (.cells #[.string se0, .string se1, .int .i64 0, .string ByteArray.empty, .string ByteArray.empty, .bool false] 117 (0, 0))) := Lib.hid (heap_setCell_same x2 wr.heap.size 1 _ _ (.string se1) B2')
            have O2 := Lib.hid (own_set (b := wr.heap.size) (o := 1) (v := .string se1) O2' (fun e => by have := (World.ownsRow.lt hown _ e).2; omega))
            have DD2 := Lib.hid (row_set (b := wr.heap.size) (o := 1) (v := .string se1) DD2' (by omega))
            have AA2 := Lib.hid (row_set (b := wr.heap.size) (o := 1) (v := .string se1) AA2' (by omega))
            clear B2' E2' O2' DD2' AA2'
            have TE2 := Lib.hid TE2
            go_wp2_with fail
            clear cc ff
            refine (c_num p c B bs _ _ _ CE2).mono ?_
            rintro e x3 ⟨KE3, jE3, bE3, qE3, rfl, JE3, CE3, TE3⟩
            obtain ⟨ne2, rfl⟩ := JE3
            simp only [one, List.headD_cons]
            have B3' := KE3.row B2.out ⟨hge.2.1, hge.2.2⟩
            have E3' := E2.trans KE3
            have O3' := own_off2 O2.out KE3 HLO2.out
            have DD3' := KE3.row DD2.out hp1
            have AA3' := KE3.row AA2.out hp0
            have cc := box_cell B3' 2 rfl
            have ff : x3.frozen? ⟨wr.heap.size, 2, none⟩ = false := frozen_of_row x3 _ 2 _ _ B3'
            have CE3 := cu_set (g := wr.heap.size) (o := 2) (v := .int .i64 ne2) CE3 hge
            have E3 : Keeps (Off2 p c) w (x3.setCell ⟨wr.heap.size, 2, none⟩ (.int .i64 ne2)) := keeps_set E3' hwr
            have B3 : Hid ((x3.setCell ⟨wr.heap.size, 2, none⟩ (.int .i64 ne2)).heap[wr.heap.size]? = some (.cells #[.string se0, .string se1, .int .i64 ne2, .string ByteArray.empty, .string ByteArray.empty, .bool false] 117 (0, 0))) := Lib.hid (heap_setCell_same x3 wr.heap.size 2 _ _ (.int .i64 ne2) B3')
            have O3 := Lib.hid (own_set (b := wr.heap.size) (o := 2) (v := .int .i64 ne2) O3' (fun e => by have := (World.ownsRow.lt hown _ e).2; omega))
            have DD3 := Lib.hid (row_set (b := wr.heap.size) (o := 2) (v := .int .i64 ne2) DD3' (by omega))
            have AA3 := Lib.hid (row_set (b := wr.heap.size) (o := 2) (v := .int .i64 ne2) AA3' (by omega))
            clear B3' E3' O3' DD3' AA3'
            have TE3 := Lib.hid TE3
            go_wp2_with fail
            clear cc ff
            refine (c_text p c B bs _ _ _ CE3).mono ?_
            rintro e x4 ⟨KE4, jE4, bE4, qE4, rfl, JE4, CE4, TE4⟩
            obtain ⟨se3, rfl⟩ := JE4
            simp only [one, List.headD_cons]
            have B4' := KE4.row B3.out ⟨hge.2.1, hge.2.2⟩
            have E4' := E3.trans KE4
            have O4' := own_off2 O3.out KE4 HLO2.out
            have DD4' := KE4.row DD3.out hp1
            have AA4' := KE4.row AA3.out hp0
            have cc := box_cell B4' 3 rfl
            have ff : x4.frozen? ⟨wr.heap.size, 3, none⟩ = false := frozen_of_row x4 _ 3 _ _ B4'
            have CE4 := cu_set (g := wr.heap.size) (o := 3) (v := .string se3) CE4 hge
            have E4 : Keeps (Off2 p c) w (x4.setCell ⟨wr.heap.size, 3, none⟩ (.string se3)) := keeps_set E4' hwr
            have B4 : Hid ((x4.setCell ⟨wr.heap.size, 3, none⟩ (.string se3)).heap[wr.heap.size]? = some (.cells #[.string se0, .string se1, .int .i64 ne2, .string se3, .string ByteArray.empty, .bool false] 117 (0, 0))) := Lib.hid (heap_setCell_same x4 wr.heap.size 3 _ _ (.string se3) B4')
            have O4 := Lib.hid (own_set (b := wr.heap.size) (o := 3) (v := .string se3) O4' (fun e => by have := (World.ownsRow.lt hown _ e).2; omega))
            have DD4 := Lib.hid (row_set (b := wr.heap.size) (o := 3) (v := .string se3) DD4' (by omega))
            have AA4 := Lib.hid (row_set (b := wr.heap.size) (o := 3) (v := .string se3) AA4' (by omega))
            clear B4' E4' O4' DD4' AA4'
            have TE4 := Lib.hid TE4
            go_wp2_with fail
            clear cc ff
            refine (c_text p c B bs _ _ _ CE4).mono ?_
            rintro e x5 ⟨KE5, jE5, bE5, qE5, rfl, JE5, CE5, TE5⟩
            obtain ⟨se4, rfl⟩ := JE5
            simp only [one, List.headD_cons]
            have B5' := KE5.row B4.out ⟨hge.2.1, hge.2.2⟩
            have E5' := E4.trans KE5
            have O5' := own_off2 O4.out KE5 HLO2.out
            have DD5' := KE5.row DD4.out hp1
            have AA5' := KE5.row AA4.out hp0
            have cc := box_cell B5' 4 rfl
            have ff : x5.frozen? ⟨wr.heap.size, 4, none⟩ = false := frozen_of_row x5 _ 4 _ _ B5'
            have CE5 := cu_set (g := wr.heap.size) (o := 4) (v := .string se4) CE5 hge
            have E5 : Keeps (Off2 p c) w (x5.setCell ⟨wr.heap.size, 4, none⟩ (.string se4)) := keeps_set E5' hwr
            have B5 : Hid ((x5.setCell ⟨wr.heap.size, 4, none⟩ (.string se4)).heap[wr.heap.size]? = some (.cells #[.string se0, .string se1, .int .i64 ne2, .string se3, .string se4, .bool false] 117 (0, 0))) := Lib.hid (heap_setCell_same x5 wr.heap.size 4 _ _ (.string se4) B5')
            have O5 := Lib.hid (own_set (b := wr.heap.size) (o := 4) (v := .string se4) O5' (fun e => by have := (World.ownsRow.lt hown _ e).2; omega))
            have DD5 := Lib.hid (row_set (b := wr.heap.size) (o := 4) (v := .string se4) DD5' (by omega))
            have AA5 := Lib.hid (row_set (b := wr.heap.size) (o := 4) (v := .string se4) AA5' (by omega))
            clear B5' E5' O5' DD5' AA5'
            have TE5 := Lib.hid TE5
            go_wp2_with fail
            clear cc ff
            refine (c_flag p c B bs _ _ _ CE5).mono ?_
            rintro e x6 ⟨KE6, jE6, bE6, qE6, rfl, JE6, CE6, TE6⟩
            obtain ⟨be5, rfl⟩ := JE6
            simp only [one, List.headD_cons]
            have B6' := KE6.row B5.out ⟨hge.2.1, hge.2.2⟩
            have E6' := E5.trans KE6
            have O6' := own_off2 O5.out KE6 HLO2.out
            have DD6' := KE6.row DD5.out hp1
            have AA6' := KE6.row AA5.out hp0
            have cc := box_cell B6' 5 rfl
            have ff : x6.frozen? ⟨wr.heap.size, 5, none⟩ = false := frozen_of_row x6 _ 5 _ _ B6'
            have CE6 := cu_set (g := wr.heap.size) (o := 5) (v := .bool be5) CE6 hge
            have E6 : Keeps (Off2 p c) w (x6.setCell ⟨wr.heap.size, 5, none⟩ (.bool be5)) := keeps_set E6' hwr
            have B6 : Hid ((x6.setCell ⟨wr.heap.size, 5, none⟩ (.bool be5)).heap[wr.heap.size]? = some (.cells #[.string se0, .string se1, .int .i64 ne2, .string se3, .string se4, .bool be5] 117 (0, 0))) := Lib.hid (heap_setCell_same x6 wr.heap.size 5 _ _ (.bool be5) B6')
            have O6 := Lib.hid (own_set (b := wr.heap.size) (o := 5) (v := .bool be5) O6' (fun e => by have := (World.ownsRow.lt hown _ e).2; omega))
            have DD6 := Lib.hid (row_set (b := wr.heap.size) (o := 5) (v := .bool be5) DD6' (by omega))
            have AA6 := Lib.hid (row_set (b := wr.heap.size) (o := 5) (v := .bool be5) AA6' (by omega))
            clear B6' E6' O6' DD6' AA6'
            have TE6 := Lib.hid TE6
            obtain ⟨y1, hy1⟩ : ∃ y, x6.setCell ⟨wr.heap.size, 5, none⟩ (.bool be5) = y := ⟨_, rfl⟩
            have CE := CE6
            have EE := E6
            have BB := B6
            have OO := O6
            have DD := DD6
            have AA := AA6
            rw [hy1] at CE EE BB OO DD AA
            have HY1 := Lib.hid hy1; clear hy1
            have rngb := Lib.hid (box_range (cs := [.string se0, .string se1, .int .i64 ne2, .string se3, .string se4, .bool be5]) BB.out)
            have OWN := Lib.hid (own_alloc OO.out (.cells #[.string se0, .string se1, .int .i64 ne2, .string se3, .string se4, .bool be5] 117))
            have cD := box_cell DD.out 6 rfl
            have CB := CE
            have GB := EE
            have DB := row_alloc' (ob := (.cells #[.string se0, .string se1, .int .i64 ne2, .string se3, .string se4, .bool be5] 117)) DD.out
            have AB := row_alloc' (ob := (.cells #[.string se0, .string se1, .int .i64 ne2, .string se3, .string se4, .bool be5] 117)) AA.out
            have hsz1 := EE.size
            rw [← HY1.out] at rngb OWN cD
            go_wp2_with (first | (refine wpList_load_mid rfl 117 _ rfl wr.heap.size 0 rfl _ _ rngb.out Tryz.underlying117 rfl HSGrant.out ?_) | (at_builtin; refine wpList_append_own_at _ rfl _ _ 32 rfl (w.heap.size + 2) 117 iGrant _ 6 80 Tryz.underlying32 hiGrant hxGrant hyGrant hzGrant rfl (by decide) _ _ _ rfl OWN.out ⟨_, 0, none⟩ 1 1 [.string se0, .string se1, .int .i64 ne2, .string se3, .string se4, .bool be5] rfl rfl ?c61 ?c62 ?c63 ?c64 ?c65 ?_))
            case c61 => exact fun j u hu => cell_fresh_at _ _ _ _ (by simp) j u hu
            case c62 => exact (mkT_Grant).one
            case c63 => unfold maxLen; omega
            case c64 => omega
            case c65 => rw [HY1.out]; have := lt_of_block DB; simp at this ⊢; omega
            intro o3 w3 hown3 hgrow _ hat3
            obtain ⟨ao3, co3, rfl⟩ := own_form hown3
            rw [HY1.out] at hgrow
            have hC3 : Cu w3 p c B bs _ _ := (CB.alloc (.cells #[.string se0, .string se1, .int .i64 ne2, .string se3, .string se4, .bool be5] 117)).keep fun g hg h => hgrow.block g hg fun e => by have := HLO2.out g (HOB.out g e.symm); omega
            have hK3 : Keeps (Off2 p c) w w3 := keeps_grown (GB.alloc (.cells #[.string se0, .string se1, .int .i64 ne2, .string se3, .string se4, .bool be5] 117)) hgrow (fun j hj => by have := HOB.out j hj; omega)
            have D3 := row_grown DB hgrow HOB.out (show w.heap.size + 1 < w.heap.size + 2 by omega)
            have A3 := row_grown AB hgrow HOB.out (show w.heap.size < w.heap.size + 2 by omega)
            have cD3 := box_cell D3 6 rfl
            have fD3 : w3.frozen? ⟨w.heap.size + 1, 6, none⟩ = false := frozen_of_row w3 _ 6 _ _ D3
            have C4 := cu_set (g := w.heap.size + 1) (o := 6) (v := .slice ao3 (l6 + 1) co3) hC3 hg
            have K4 : Keeps (Off2 p c) w (w3.setCell ⟨w.heap.size + 1, 6, none⟩ (.slice ao3 (l6 + 1) co3)) := keeps_set hK3 (by omega)
            have A4 := Lib.hid (row_set (b := w.heap.size + 1) (o := 6) (v := .slice ao3 (l6 + 1) co3) A3 (by omega))
            have D4 : Hid ((w3.setCell ⟨w.heap.size + 1, 6, none⟩ (.slice ao3 (l6 + 1) co3)).heap[w.heap.size + 1]? = some (.cells #[.int .i64 n0, .int .i64 n1, .slice a2 l2 c2, .slice a3 l3 c3, .slice a4 l4 c4, .slice a5 l5 c5, .slice ao3 (l6 + 1) co3] 34 (0, 0))) := Lib.hid (heap_setCell_same w3 (w.heap.size + 1) 6 _ _ (.slice ao3 (l6 + 1) co3) D3)
            have own4 := Lib.hid (own_set (b := w.heap.size + 1) (o := 6) (v := .slice ao3 (l6 + 1) co3) hown3 (fun e => by have := (World.ownsRow.lt hown3 _ e).1; omega))
            clear hown3 hat3 cD D3 A3
            go_wp2_with fail
            go_roundw
            case rel => exact ⟨l6 + 1, _, _, _, _, by omega, by go_num, own4.out, C4, K4, A4, D4, HSN.out _ _ (TE1.out.two (TE2.out.two (TE3.out.two (TE4.out.two (TE5.out.two TE6.out)))))⟩
            case measure => simp [intOf]; omega
          · have hex : l6 < nn6 ∧ bad' = true ∨ ¬ l6 < nn6 := by
              by_cases h : l6 < nn6
              · refine .inl ⟨h, ?_⟩
                cases bad' with
                | true => rfl
                | false => exact absurd ⟨h, rfl⟩ hgo
              · exact .inr h
            have T6 := list_cut S6.out hS.out (by rcases hex with ⟨_, h⟩ | h; exact .inr h; exact .inl (by omega))
            have T6 := Lib.hid T6
            have C6 := hC
            have G6 := hK
            have A6 := hA
            have D6 := hD
            clear hgo hS hown
            rcases hex with ⟨hlt, rfl⟩ | hlt
            all_goals
              have HA := Lib.hid (setRow_heap _ w.heap.size _ #[.int .i64 n0, .int .i64 n1, .slice a2 l2 c2, .slice a3 l3 c3, .slice a4 l4 c4, .slice a5 l5 c5, .slice a6 l6 c6] _ _ A6.out)
              have rng := Lib.hid (box_range (cs := [.int .i64 n0, .int .i64 n1, .slice a2 l2 c2, .slice a3 l3 c3, .slice a4 l4 c4, .slice a5 l5 c5, .slice a6 l6 c6]) D6.out)
              have h1 := Lib.hid (all_oneCell_toArray (mkT_Catalog (n0 := n0) (n1 := n1) (a2 := a2) (l2 := l2) (c2 := c2) (a3 := a3) (l3 := l3) (c3 := c3) (a4 := a4) (l4 := l4) (c4 := c4) (a5 := a5) (l5 := l5) (c5 := c5) (a6 := a6) (l6 := l6) (c6 := c6)).one)
              go_wp2_with (first | (refine wpList_load_mid rfl 34 _ rfl (w.heap.size + 1) 0 rfl _ _ rng.out Tryz.underlying34 rfl HI.out ?_) | (refine wpList_store_row rfl 34 _ _ rfl w.heap.size 34 _ #[.int .i64 n0, .int .i64 n1, .slice a2 l2 c2, .slice a3 l3 c3, .slice a4 l4 c4, .slice a5 l5 c5, .slice a6 l6 c6] rfl rfl A6.out HI.out rfl h1.out ?_))
              refine bodyPost_ret (results_cell_row rfl _ _ w.heap.size _ _ (0, 0) _ rfl HA.out Tryz.underlying34 rfl HI.out) rfl ?_
              exact ⟨G6.setRow (Nat.le_refl _) _, _, _, _, rfl, mkT_Catalog, C6.setOwn (own_lt h (Nat.le_refl _)) (fun k hk => setRow_other _ _ _ _ hk), (T1.out.two (T2.out.two (CStep.assoc (T3.out.two (T4.out.two (T5.out.two T6.out))))))⟩

end Go.Proofs.YtbhpbiimfcdgaaaGreat
