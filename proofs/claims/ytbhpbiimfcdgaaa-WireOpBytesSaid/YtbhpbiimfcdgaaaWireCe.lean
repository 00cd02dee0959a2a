/-
  The document's reader, by contract: operations (made by wip/gen_wire.py)
-/
import Derived.Test.YtbhpbiimfcdgaaaWireCd
namespace Go.Proofs.Ytbhpbiimfcdgaaa
open Go.RowKit
set_option linter.unusedVariables false

set_option maxRecDepth 100000 in
set_option maxHeartbeats 2000000 in
theorem c_op (p c : Nat) (B : Nat) (bs : List UInt8) (i : Nat) (bad : Bool) (w : World) (h : Cu w p c B bs i bad) :
    Calls Try.prog 57 #[.pointer (some ⟨p, 0, none⟩)] w (CPost w p c B bs shOp i bad agg) := by
  have hg := own_lt h (Nat.le_succ w.heap.size)
  have hp0 : Off2 p c w.heap.size := by have := own_lt h (Nat.le_refl w.heap.size); exact ⟨this.2.1, this.2.2⟩
  have hp1 : Off2 p c (w.heap.size + 1) := ⟨hg.2.1, hg.2.2⟩
  have C0 := (h.alloc (.cells #[.int .i64 0, .int .i64 0, .int .i64 0, .int .i64 0, .string ByteArray.empty, .string ByteArray.empty, .string ByteArray.empty, .string ByteArray.empty, .string ByteArray.empty, .slice none 0 0, .string ByteArray.empty, .int .i64 0, .slice none 0 0, .int .i64 0, .int .i64 0, .string ByteArray.empty, .string ByteArray.empty, .string ByteArray.empty, .int .i64 0, .bool false, .int .i64 0, .int .i64 0, .int .i64 0] 72)).alloc (.cells #[.int .i64 0, .int .i64 0, .int .i64 0, .int .i64 0, .string ByteArray.empty, .string ByteArray.empty, .string ByteArray.empty, .string ByteArray.empty, .string ByteArray.empty, .slice none 0 0, .string ByteArray.empty, .int .i64 0, .slice none 0 0, .int .i64 0, .int .i64 0, .string ByteArray.empty, .string ByteArray.empty, .string ByteArray.empty, .int .i64 0, .bool false, .int .i64 0, .int .i64 0, .int .i64 0] 72)
  have G0 : Keeps (Off2 p c) w ((w.alloc (.cells #[.int .i64 0, .int .i64 0, .int .i64 0, .int .i64 0, .string ByteArray.empty, .string ByteArray.empty, .string ByteArray.empty, .string ByteArray.empty, .string ByteArray.empty, .slice none 0 0, .string ByteArray.empty, .int .i64 0, .slice none 0 0, .int .i64 0, .int .i64 0, .string ByteArray.empty, .string ByteArray.empty, .string ByteArray.empty, .int .i64 0, .bool false, .int .i64 0, .int .i64 0, .int .i64 0] 72)).alloc (.cells #[.int .i64 0, .int .i64 0, .int .i64 0, .int .i64 0, .string ByteArray.empty, .string ByteArray.empty, .string ByteArray.empty, .string ByteArray.empty, .string ByteArray.empty, .slice none 0 0, .string ByteArray.empty, .int .i64 0, .slice none 0 0, .int .i64 0, .int .i64 0, .string ByteArray.empty, .string ByteArray.empty, .string ByteArray.empty, .int .i64 0, .bool false, .int .i64 0, .int .i64 0, .int .i64 0] 72)) := (Keeps.refl.alloc _).alloc _
  have A0 := Lib.hid (heap_alloc2_old w (.cells #[.int .i64 0, .int .i64 0, .int .i64 0, .int .i64 0, .string ByteArray.empty, .string ByteArray.empty, .string ByteArray.empty, .string ByteArray.empty, .string ByteArray.empty, .slice none 0 0, .string ByteArray.empty, .int .i64 0, .slice none 0 0, .int .i64 0, .int .i64 0, .string ByteArray.empty, .string ByteArray.empty, .string ByteArray.empty, .int .i64 0, .bool false, .int .i64 0, .int .i64 0, .int .i64 0] 72) (.cells #[.int .i64 0, .int .i64 0, .int .i64 0, .int .i64 0, .string ByteArray.empty, .string ByteArray.empty, .string ByteArray.empty, .string ByteArray.empty, .string ByteArray.empty, .slice none 0 0, .string ByteArray.empty, .int .i64 0, .slice none 0 0, .int .i64 0, .int .i64 0, .string ByteArray.empty, .string ByteArray.empty, .string ByteArray.empty, .int .i64 0, .bool false, .int .i64 0, .int .i64 0, .int .i64 0] 72))
  have D0 := Lib.hid (heap_alloc2_new w (.cells #[.int .i64 0, .int .i64 0, .int .i64 0, .int .i64 0, .string ByteArray.empty, .string ByteArray.empty, .string ByteArray.empty, .string ByteArray.empty, .string ByteArray.empty, .slice none 0 0, .string ByteArray.empty, .int .i64 0, .slice none 0 0, .int .i64 0, .int .i64 0, .string ByteArray.empty, .string ByteArray.empty, .string ByteArray.empty, .int .i64 0, .bool false, .int .i64 0, .int .i64 0, .int .i64 0] 72) (.cells #[.int .i64 0, .int .i64 0, .int .i64 0, .int .i64 0, .string ByteArray.empty, .string ByteArray.empty, .string ByteArray.empty, .string ByteArray.empty, .string ByteArray.empty, .slice none 0 0, .string ByteArray.empty, .int .i64 0, .slice none 0 0, .int .i64 0, .int .i64 0, .string ByteArray.empty, .string ByteArray.empty, .string ByteArray.empty, .int .i64 0, .bool false, .int .i64 0, .int .i64 0, .int .i64 0] 72))
  have hi : (Try.prog.info? 72).map (·.size) = some 23 := by kernel_rfl
  have HI := Lib.hid hi; clear hi
  have h1z : (#[.int .i64 0, .int .i64 0, .int .i64 0, .int .i64 0, .string ByteArray.empty, .string ByteArray.empty, .string ByteArray.empty, .string ByteArray.empty, .string ByteArray.empty, .slice none 0 0, .string ByteArray.empty, .int .i64 0, .slice none 0 0, .int .i64 0, .int .i64 0, .string ByteArray.empty, .string ByteArray.empty, .string ByteArray.empty, .int .i64 0, .bool false, .int .i64 0, .int .i64 0, .int .i64 0] : Array Value).all (·.oneCell') = true := by kernel_rfl
  have H1Z := Lib.hid h1z; clear h1z
  have HNZ : Hid ((w.alloc (.cells #[.int .i64 0, .int .i64 0, .int .i64 0, .int .i64 0, .string ByteArray.empty, .string ByteArray.empty, .string ByteArray.empty, .string ByteArray.empty, .string ByteArray.empty, .slice none 0 0, .string ByteArray.empty, .int .i64 0, .slice none 0 0, .int .i64 0, .int .i64 0, .string ByteArray.empty, .string ByteArray.empty, .string ByteArray.empty, .int .i64 0, .bool false, .int .i64 0, .int .i64 0, .int .i64 0] 72)).heap.size = w.heap.size + 1) := Lib.hid (by simp)
  go_enter Try.func57, Try.ntmps57
  go_wp2_with (refine wpList_store_last (w.alloc (.cells #[.int .i64 0, .int .i64 0, .int .i64 0, .int .i64 0, .string ByteArray.empty, .string ByteArray.empty, .string ByteArray.empty, .string ByteArray.empty, .string ByteArray.empty, .slice none 0 0, .string ByteArray.empty, .int .i64 0, .slice none 0 0, .int .i64 0, .int .i64 0, .string ByteArray.empty, .string ByteArray.empty, .string ByteArray.empty, .int .i64 0, .bool false, .int .i64 0, .int .i64 0, .int .i64 0] 72)) rfl 72 _ _ rfl 72 #[.int .i64 0, .int .i64 0, .int .i64 0, .int .i64 0, .string ByteArray.empty, .string ByteArray.empty, .string ByteArray.empty, .string ByteArray.empty, .string ByteArray.empty, .slice none 0 0, .string ByteArray.empty, .int .i64 0, .slice none 0 0, .int .i64 0, .int .i64 0, .string ByteArray.empty, .string ByteArray.empty, .string ByteArray.empty, .int .i64 0, .bool false, .int .i64 0, .int .i64 0, .int .i64 0] #[.int .i64 0, .int .i64 0, .int .i64 0, .int .i64 0, .string ByteArray.empty, .string ByteArray.empty, .string ByteArray.empty, .string ByteArray.empty, .string ByteArray.empty, .slice none 0 0, .string ByteArray.empty, .int .i64 0, .slice none 0 0, .int .i64 0, .int .i64 0, .string ByteArray.empty, .string ByteArray.empty, .string ByteArray.empty, .int .i64 0, .bool false, .int .i64 0, .int .i64 0, .int .i64 0] (w.heap.size + 1) HNZ.out rfl rfl HI.out rfl H1Z.out ?_)
  refine (c_num p c B bs _ _ _ C0).mono ?_
  rintro e w1 ⟨K1, j1, bad1, q1, rfl, J1, C1, T1⟩
  obtain ⟨n0, rfl⟩ := J1
  simp only [one, List.headD_cons]
  have A1' := K1.row A0.out hp0
  have D1' := K1.row D0.out hp1
  have G1' := G0.trans K1
  have cc := box_cell D1' 0 rfl
  have ff : w1.frozen? ⟨w.heap.size + 1, 0, none⟩ = false := frozen_of_row w1 _ 0 _ _ D1'
  have C1 := cu_set (g := w.heap.size + 1) (o := 0) (v := .int .i64 n0) C1 hg
  have G1 : Keeps (Off2 p c) w (w1.setCell ⟨w.heap.size + 1, 0, none⟩ (.int .i64 n0)) := keeps_set G1' (by omega)
  have A1 := Lib.hid (row_set (b := w.heap.size + 1) (o := 0) (v := .int .i64 n0) A1' (by omega))
  have D1 : Hid ((w1.setCell ⟨w.heap.size + 1, 0, none⟩ (.int .i64 n0)).heap[w.heap.size + 1]? = some (.cells #[.int .i64 n0, .int .i64 0, .int .i64 0, .int .i64 0, .string ByteArray.empty, .string ByteArray.empty, .string ByteArray.empty, .string ByteArray.empty, .string ByteArray.empty, .slice none 0 0, .string ByteArray.empty, .int .i64 0, .slice none 0 0, .int .i64 0, .int .i64 0, .string ByteArray.empty, .string ByteArray.empty, .string ByteArray.empty, .int .i64 0, .bool false, .int .i64 0, .int .i64 0, .int .i64 0] 72 (0, 0))) := Lib.hid (setCells_mid [.int .i64 n0] [.int .i64 0] [] [.int .i64 0, .int .i64 0, .int .i64 0, .string ByteArray.empty, .string ByteArray.empty, .string ByteArray.empty, .string ByteArray.empty, .string ByteArray.empty, .slice none 0 0, .string ByteArray.empty, .int .i64 0, .slice none 0 0, .int .i64 0, .int .i64 0, .string ByteArray.empty, .string ByteArray.empty, .string ByteArray.empty, .int .i64 0, .bool false, .int .i64 0, .int .i64 0, .int .i64 0] w1 rfl D1')
  clear A1' D1' G1'
  go_wp2_with fail
  clear cc ff
  have T1 := Lib.hid T1
  refine (c_num p c B bs _ _ _ C1).mono ?_
  rintro e w2 ⟨K2, j2, bad2, q2, rfl, J2, C2, T2⟩
  obtain ⟨n1, rfl⟩ := J2
  simp only [one, List.headD_cons]
  have A2' := K2.row A1.out hp0
  have D2' := K2.row D1.out hp1
  have G2' := G1.trans K2
  have cc := box_cell D2' 1 rfl
  have ff : w2.frozen? ⟨w.heap.size + 1, 1, none⟩ = false := frozen_of_row w2 _ 1 _ _ D2'
  have C2 := cu_set (g := w.heap.size + 1) (o := 1) (v := .int .i64 n1) C2 hg
  have G2 : Keeps (Off2 p c) w (w2.setCell ⟨w.heap.size + 1, 1, none⟩ (.int .i64 n1)) := keeps_set G2' (by omega)
  have A2 := Lib.hid (row_set (b := w.heap.size + 1) (o := 1) (v := .int .i64 n1) A2' (by omega))
  have D2 : Hid ((w2.setCell ⟨w.heap.size + 1, 1, none⟩ (.int .i64 n1)).heap[w.heap.size + 1]? = some (.cells #[.int .i64 n0, .int .i64 n1, .int .i64 0, .int .i64 0, .string ByteArray.empty, .string ByteArray.empty, .string ByteArray.empty, .string ByteArray.empty, .string ByteArray.empty, .slice none 0 0, .string ByteArray.empty, .int .i64 0, .slice none 0 0, .int .i64 0, .int .i64 0, .string ByteArray.empty, .string ByteArray.empty, .string ByteArray.empty, .int .i64 0, .bool false, .int .i64 0, .int .i64 0, .int .i64 0] 72 (0, 0))) := Lib.hid (setCells_mid [.int .i64 n1] [.int .i64 0] [.int .i64 n0] [.int .i64 0, .int .i64 0, .string ByteArray.empty, .string ByteArray.empty, .string ByteArray.empty, .string ByteArray.empty, .string ByteArray.empty, .slice none 0 0, .string ByteArray.empty, .int .i64 0, .slice none 0 0, .int .i64 0, .int .i64 0, .string ByteArray.empty, .string ByteArray.empty, .string ByteArray.empty, .int .i64 0, .bool false, .int .i64 0, .int .i64 0, .int .i64 0] w2 rfl D2')
  clear A2' D2' G2'
  go_wp2_with fail
  clear cc ff
  have T2 := Lib.hid T2
  refine (c_num p c B bs _ _ _ C2).mono ?_
  rintro e w3 ⟨K3, j3, bad3, q3, rfl, J3, C3, T3⟩
  obtain ⟨n2, rfl⟩ := J3
  simp only [one, List.headD_cons]
  have A3' := K3.row A2.out hp0
  have D3' := K3.row D2.out hp1
  have G3' := G2.trans K3
  have cc := box_cell D3' 2 rfl
  have ff : w3.frozen? ⟨w.heap.size + 1, 2, none⟩ = false := frozen_of_row w3 _ 2 _ _ D3'
  have C3 := cu_set (g := w.heap.size + 1) (o := 2) (v := .int .i64 n2) C3 hg
  have G3 : Keeps (Off2 p c) w (w3.setCell ⟨w.heap.size + 1, 2, none⟩ (.int .i64 n2)) := keeps_set G3' (by omega)
  have A3 := Lib.hid (row_set (b := w.heap.size + 1) (o := 2) (v := .int .i64 n2) A3' (by omega))
  have D3 : Hid ((w3.setCell ⟨w.heap.size + 1, 2, none⟩ (.int .i64 n2)).heap[w.heap.size + 1]? = some (.cells #[.int .i64 n0, .int .i64 n1, .int .i64 n2, .int .i64 0, .string ByteArray.empty, .string ByteArray.empty, .string ByteArray.empty, .string ByteArray.empty, .string ByteArray.empty, .slice none 0 0, .string ByteArray.empty, .int .i64 0, .slice none 0 0, .int .i64 0, .int .i64 0, .string ByteArray.empty, .string ByteArray.empty, .string ByteArray.empty, .int .i64 0, .bool false, .int .i64 0, .int .i64 0, .int .i64 0] 72 (0, 0))) := Lib.hid (setCells_mid [.int .i64 n2] [.int .i64 0] [.int .i64 n0, .int .i64 n1] [.int .i64 0, .string ByteArray.empty, .string ByteArray.empty, .string ByteArray.empty, .string ByteArray.empty, .string ByteArray.empty, .slice none 0 0, .string ByteArray.empty, .int .i64 0, .slice none 0 0, .int .i64 0, .int .i64 0, .string ByteArray.empty, .string ByteArray.empty, .string ByteArray.empty, .int .i64 0, .bool false, .int .i64 0, .int .i64 0, .int .i64 0] w3 rfl D3')
  clear A3' D3' G3'
  go_wp2_with fail
  clear cc ff
  have T3 := Lib.hid T3
  refine (c_command p c B bs _ _ _ C3).mono ?_
  rintro e w4 ⟨K4, j4, bad4, q4, rfl, J4, C4, T4⟩
  obtain ⟨n3_0, s3_1, s3_2, s3_3, s3_4, s3_5, a3_6, l3_6, c3_6, s3_7_0, n3_7_1, a3_7_2, l3_7_2, c3_7_2, n3_7_3, n3_7_4, s3_7_5, s3_7_6, s3_7_7, n3_8, b3_9, rfl⟩ := typed_Command J4
  simp only [agg]
  have A4' := K4.row A3.out hp0
  have D4' := K4.row D3.out hp1
  have G4' := G3.trans K4
  have C4 := cu_sets (g := w.heap.size + 1) (o := 3) (vs := [.int .i64 n3_0, .string s3_1, .string s3_2, .string s3_3, .string s3_4, .string s3_5, .slice a3_6 l3_6 c3_6, .string s3_7_0, .int .i64 n3_7_1, .slice a3_7_2 l3_7_2 c3_7_2, .int .i64 n3_7_3, .int .i64 n3_7_4, .string s3_7_5, .string s3_7_6, .string s3_7_7, .int .i64 n3_8, .bool b3_9]) C4 hg
  have G4 : Keeps (Off2 p c) w (w4.setCells (w.heap.size + 1) 3 [.int .i64 n3_0, .string s3_1, .string s3_2, .string s3_3, .string s3_4, .string s3_5, .slice a3_6 l3_6 c3_6, .string s3_7_0, .int .i64 n3_7_1, .slice a3_7_2 l3_7_2 c3_7_2, .int .i64 n3_7_3, .int .i64 n3_7_4, .string s3_7_5, .string s3_7_6, .string s3_7_7, .int .i64 n3_8, .bool b3_9]) := keeps_sets G4' (by omega)
  have A4 := Lib.hid (row_sets (b := w.heap.size + 1) (o := 3) (vs := [.int .i64 n3_0, .string s3_1, .string s3_2, .string s3_3, .string s3_4, .string s3_5, .slice a3_6 l3_6 c3_6, .string s3_7_0, .int .i64 n3_7_1, .slice a3_7_2 l3_7_2 c3_7_2, .int .i64 n3_7_3, .int .i64 n3_7_4, .string s3_7_5, .string s3_7_6, .string s3_7_7, .int .i64 n3_8, .bool b3_9]) A4' (by omega))
  have D4 : Hid ((w4.setCells (w.heap.size + 1) 3 [.int .i64 n3_0, .string s3_1, .string s3_2, .string s3_3, .string s3_4, .string s3_5, .slice a3_6 l3_6 c3_6, .string s3_7_0, .int .i64 n3_7_1, .slice a3_7_2 l3_7_2 c3_7_2, .int .i64 n3_7_3, .int .i64 n3_7_4, .string s3_7_5, .string s3_7_6, .string s3_7_7, .int .i64 n3_8, .bool b3_9]).heap[w.heap.size + 1]? = some (.cells #[.int .i64 n0, .int .i64 n1, .int .i64 n2, .int .i64 n3_0, .string s3_1, .string s3_2, .string s3_3, .string s3_4, .string s3_5, .slice a3_6 l3_6 c3_6, .string s3_7_0, .int .i64 n3_7_1, .slice a3_7_2 l3_7_2 c3_7_2, .int .i64 n3_7_3, .int .i64 n3_7_4, .string s3_7_5, .string s3_7_6, .string s3_7_7, .int .i64 n3_8, .bool b3_9, .int .i64 0, .int .i64 0, .int .i64 0] 72 (0, 0))) := Lib.hid (setCells_mid [.int .i64 n3_0, .string s3_1, .string s3_2, .string s3_3, .string s3_4, .string s3_5, .slice a3_6 l3_6 c3_6, .string s3_7_0, .int .i64 n3_7_1, .slice a3_7_2 l3_7_2 c3_7_2, .int .i64 n3_7_3, .int .i64 n3_7_4, .string s3_7_5, .string s3_7_6, .string s3_7_7, .int .i64 n3_8, .bool b3_9] [.int .i64 0, .string ByteArray.empty, .string ByteArray.empty, .string ByteArray.empty, .string ByteArray.empty, .string ByteArray.empty, .slice none 0 0, .string ByteArray.empty, .int .i64 0, .slice none 0 0, .int .i64 0, .int .i64 0, .string ByteArray.empty, .string ByteArray.empty, .string ByteArray.empty, .int .i64 0, .bool false] [.int .i64 n0, .int .i64 n1, .int .i64 n2] [.int .i64 0, .int .i64 0, .int .i64 0] w4 rfl D4')
  have th := Lib.hid (there_row D4' 3 17 (by simp))
  have hs : (Try.prog.info? 30).map (·.size) = some 17 := by kernel_rfl
  have HS := Lib.hid hs; clear hs
  have ho := Lib.hid (all_oneCell_toArray (mkT_Command (n0 := n3_0) (s1 := s3_1) (s2 := s3_2) (s3 := s3_3) (s4 := s3_4) (s5 := s3_5) (a6 := a3_6) (l6 := l3_6) (c6 := c3_6) (s7_0 := s3_7_0) (n7_1 := n3_7_1) (a7_2 := a3_7_2) (l7_2 := l3_7_2) (c7_2 := c3_7_2) (n7_3 := n3_7_3) (n7_4 := n3_7_4) (s7_5 := s3_7_5) (s7_6 := s3_7_6) (s7_7 := s3_7_7) (n8 := n3_8) (b9 := b3_9)).one)
  obtain ⟨v4, hv4⟩ : ∃ v, w4.setCells (w.heap.size + 1) 3 [.int .i64 n3_0, .string s3_1, .string s3_2, .string s3_3, .string s3_4, .string s3_5, .slice a3_6 l3_6 c3_6, .string s3_7_0, .int .i64 n3_7_1, .slice a3_7_2 l3_7_2 c3_7_2, .int .i64 n3_7_3, .int .i64 n3_7_4, .string s3_7_5, .string s3_7_6, .string s3_7_7, .int .i64 n3_8, .bool b3_9] = v := ⟨_, rfl⟩
  rw [hv4] at C4 G4 A4 D4
  have HV4 := Lib.hid hv4; clear hv4
  clear A4' D4' G4'
  go_wp2_with (refine wpList_store_part rfl 30 _ _ rfl (w.heap.size + 1) 3 #[.int .i64 n3_0, .string s3_1, .string s3_2, .string s3_3, .string s3_4, .string s3_5, .slice a3_6 l3_6 c3_6, .string s3_7_0, .int .i64 n3_7_1, .slice a3_7_2 l3_7_2 c3_7_2, .int .i64 n3_7_3, .int .i64 n3_7_4, .string s3_7_5, .string s3_7_6, .string s3_7_7, .int .i64 n3_8, .bool b3_9] rfl rfl 17 rfl th.out HS.out ho.out v4 HV4.out ?_)
  clear th HS ho
  have T4 := Lib.hid T4
  refine (c_num p c B bs _ _ _ C4).mono ?_
  rintro e w5 ⟨K5, j5, bad5, q5, rfl, J5, C5, T5⟩
  obtain ⟨n4, rfl⟩ := J5
  simp only [one, List.headD_cons]
  have A5' := K5.row A4.out hp0
  have D5' := K5.row D4.out hp1
  have G5' := G4.trans K5
  have cc := box_cell D5' 20 rfl
  have ff : w5.frozen? ⟨w.heap.size + 1, 20, none⟩ = false := frozen_of_row w5 _ 20 _ _ D5'
  have C5 := cu_set (g := w.heap.size + 1) (o := 20) (v := .int .i64 n4) C5 hg
  have G5 : Keeps (Off2 p c) w (w5.setCell ⟨w.heap.size + 1, 20, none⟩ (.int .i64 n4)) := keeps_set G5' (by omega)
  have A5 := Lib.hid (row_set (b := w.heap.size + 1) (o := 20) (v := .int .i64 n4) A5' (by omega))
  have D5 : Hid ((w5.setCell ⟨w.heap.size + 1, 20, none⟩ (.int .i64 n4)).heap[w.heap.size + 1]? = some (.cells #[.int .i64 n0, .int .i64 n1, .int .i64 n2, .int .i64 n3_0, .string s3_1, .string s3_2, .string s3_3, .string s3_4, .string s3_5, .slice a3_6 l3_6 c3_6, .string s3_7_0, .int .i64 n3_7_1, .slice a3_7_2 l3_7_2 c3_7_2, .int .i64 n3_7_3, .int .i64 n3_7_4, .string s3_7_5, .string s3_7_6, .string s3_7_7, .int .i64 n3_8, .bool b3_9, .int .i64 n4, .int .i64 0, .int .i64 0] 72 (0, 0))) := Lib.hid (setCells_mid [.int .i64 n4] [.int .i64 0] [.int .i64 n0, .int .i64 n1, .int .i64 n2, .int .i64 n3_0, .string s3_1, .string s3_2, .string s3_3, .string s3_4, .string s3_5, .slice a3_6 l3_6 c3_6, .string s3_7_0, .int .i64 n3_7_1, .slice a3_7_2 l3_7_2 c3_7_2, .int .i64 n3_7_3, .int .i64 n3_7_4, .string s3_7_5, .string s3_7_6, .string s3_7_7, .int .i64 n3_8, .bool b3_9] [.int .i64 0, .int .i64 0] w5 rfl D5')
  clear A5' D5' G5'
  go_wp2_with fail
  clear cc ff
  have T5 := Lib.hid T5
  refine (c_num p c B bs _ _ _ C5).mono ?_
  rintro e w6 ⟨K6, j6, bad6, q6, rfl, J6, C6, T6⟩
  obtain ⟨n5, rfl⟩ := J6
  simp only [one, List.headD_cons]
  have A6' := K6.row A5.out hp0
  have D6' := K6.row D5.out hp1
  have G6' := G5.trans K6
  have cc := box_cell D6' 21 rfl
  have ff : w6.frozen? ⟨w.heap.size + 1, 21, none⟩ = false := frozen_of_row w6 _ 21 _ _ D6'
  have C6 := cu_set (g := w.heap.size + 1) (o := 21) (v := .int .i64 n5) C6 hg
  have G6 : Keeps (Off2 p c) w (w6.setCell ⟨w.heap.size + 1, 21, none⟩ (.int .i64 n5)) := keeps_set G6' (by omega)
  have A6 := Lib.hid (row_set (b := w.heap.size + 1) (o := 21) (v := .int .i64 n5) A6' (by omega))
  have D6 : Hid ((w6.setCell ⟨w.heap.size + 1, 21, none⟩ (.int .i64 n5)).heap[w.heap.size + 1]? = some (.cells #[.int .i64 n0, .int .i64 n1, .int .i64 n2, .int .i64 n3_0, .string s3_1, .string s3_2, .string s3_3, .string s3_4, .string s3_5, .slice a3_6 l3_6 c3_6, .string s3_7_0, .int .i64 n3_7_1, .slice a3_7_2 l3_7_2 c3_7_2, .int .i64 n3_7_3, .int .i64 n3_7_4, .string s3_7_5, .string s3_7_6, .string s3_7_7, .int .i64 n3_8, .bool b3_9, .int .i64 n4, .int .i64 n5, .int .i64 0] 72 (0, 0))) := Lib.hid (setCells_mid [.int .i64 n5] [.int .i64 0] [.int .i64 n0, .int .i64 n1, .int .i64 n2, .int .i64 n3_0, .string s3_1, .string s3_2, .string s3_3, .string s3_4, .string s3_5, .slice a3_6 l3_6 c3_6, .string s3_7_0, .int .i64 n3_7_1, .slice a3_7_2 l3_7_2 c3_7_2, .int .i64 n3_7_3, .int .i64 n3_7_4, .string s3_7_5, .string s3_7_6, .string s3_7_7, .int .i64 n3_8, .bool b3_9, .int .i64 n4] [.int .i64 0] w6 rfl D6')
  clear A6' D6' G6'
  go_wp2_with fail
  clear cc ff
  have T6 := Lib.hid T6
  refine (c_num p c B bs _ _ _ C6).mono ?_
  rintro e w7 ⟨K7, j7, bad7, q7, rfl, J7, C7, T7⟩
  obtain ⟨n6, rfl⟩ := J7
  simp only [one, List.headD_cons]
  have A7' := K7.row A6.out hp0
  have D7' := K7.row D6.out hp1
  have G7' := G6.trans K7
  have cc := box_cell D7' 22 rfl
  have ff : w7.frozen? ⟨w.heap.size + 1, 22, none⟩ = false := frozen_of_row w7 _ 22 _ _ D7'
  have C7 := cu_set (g := w.heap.size + 1) (o := 22) (v := .int .i64 n6) C7 hg
  have G7 : Keeps (Off2 p c) w (w7.setCell ⟨w.heap.size + 1, 22, none⟩ (.int .i64 n6)) := keeps_set G7' (by omega)
  have A7 := Lib.hid (row_set (b := w.heap.size + 1) (o := 22) (v := .int .i64 n6) A7' (by omega))
  have D7 : Hid ((w7.setCell ⟨w.heap.size + 1, 22, none⟩ (.int .i64 n6)).heap[w.heap.size + 1]? = some (.cells #[.int .i64 n0, .int .i64 n1, .int .i64 n2, .int .i64 n3_0, .string s3_1, .string s3_2, .string s3_3, .string s3_4, .string s3_5, .slice a3_6 l3_6 c3_6, .string s3_7_0, .int .i64 n3_7_1, .slice a3_7_2 l3_7_2 c3_7_2, .int .i64 n3_7_3, .int .i64 n3_7_4, .string s3_7_5, .string s3_7_6, .string s3_7_7, .int .i64 n3_8, .bool b3_9, .int .i64 n4, .int .i64 n5, .int .i64 n6] 72 (0, 0))) := Lib.hid (setCells_mid [.int .i64 n6] [.int .i64 0] [.int .i64 n0, .int .i64 n1, .int .i64 n2, .int .i64 n3_0, .string s3_1, .string s3_2, .string s3_3, .string s3_4, .string s3_5, .slice a3_6 l3_6 c3_6, .string s3_7_0, .int .i64 n3_7_1, .slice a3_7_2 l3_7_2 c3_7_2, .int .i64 n3_7_3, .int .i64 n3_7_4, .string s3_7_5, .string s3_7_6, .string s3_7_7, .int .i64 n3_8, .bool b3_9, .int .i64 n4, .int .i64 n5] [] w7 rfl D7')
  clear A7' D7' G7'
  have T7 := Lib.hid T7
  have HA := Lib.hid (setRow_heap _ w.heap.size _ #[.int .i64 n0, .int .i64 n1, .int .i64 n2, .int .i64 n3_0, .string s3_1, .string s3_2, .string s3_3, .string s3_4, .string s3_5, .slice a3_6 l3_6 c3_6, .string s3_7_0, .int .i64 n3_7_1, .slice a3_7_2 l3_7_2 c3_7_2, .int .i64 n3_7_3, .int .i64 n3_7_4, .string s3_7_5, .string s3_7_6, .string s3_7_7, .int .i64 n3_8, .bool b3_9, .int .i64 n4, .int .i64 n5, .int .i64 n6] _ _ A7.out)
  have rng := Lib.hid (box_range (cs := [.int .i64 n0, .int .i64 n1, .int .i64 n2, .int .i64 n3_0, .string s3_1, .string s3_2, .string s3_3, .string s3_4, .string s3_5, .slice a3_6 l3_6 c3_6, .string s3_7_0, .int .i64 n3_7_1, .slice a3_7_2 l3_7_2 c3_7_2, .int .i64 n3_7_3, .int .i64 n3_7_4, .string s3_7_5, .string s3_7_6, .string s3_7_7, .int .i64 n3_8, .bool b3_9, .int .i64 n4, .int .i64 n5, .int .i64 n6]) D7.out)
  have h1 := Lib.hid (all_oneCell_toArray (mkT_Op (n0 := n0) (n1 := n1) (n2 := n2) (n3_0 := n3_0) (s3_1 := s3_1) (s3_2 := s3_2) (s3_3 := s3_3) (s3_4 := s3_4) (s3_5 := s3_5) (a3_6 := a3_6) (l3_6 := l3_6) (c3_6 := c3_6) (s3_7_0 := s3_7_0) (n3_7_1 := n3_7_1) (a3_7_2 := a3_7_2) (l3_7_2 := l3_7_2) (c3_7_2 := c3_7_2) (n3_7_3 := n3_7_3) (n3_7_4 := n3_7_4) (s3_7_5 := s3_7_5) (s3_7_6 := s3_7_6) (s3_7_7 := s3_7_7) (n3_8 := n3_8) (b3_9 := b3_9) (n4 := n4) (n5 := n5) (n6 := n6)).one)
  go_wp2_with (first | (refine wpList_load_mid rfl 72 _ rfl (w.heap.size + 1) 0 rfl _ _ rng.out Try.underlying72 rfl HI.out ?_) | (refine wpList_store_row rfl 72 _ _ rfl w.heap.size 72 _ #[.int .i64 n0, .int .i64 n1, .int .i64 n2, .int .i64 n3_0, .string s3_1, .string s3_2, .string s3_3, .string s3_4, .string s3_5, .slice a3_6 l3_6 c3_6, .string s3_7_0, .int .i64 n3_7_1, .slice a3_7_2 l3_7_2 c3_7_2, .int .i64 n3_7_3, .int .i64 n3_7_4, .string s3_7_5, .string s3_7_6, .string s3_7_7, .int .i64 n3_8, .bool b3_9, .int .i64 n4, .int .i64 n5, .int .i64 n6] rfl rfl A7.out HI.out rfl h1.out ?_))
  refine bodyPost_ret (results_cell_row rfl _ _ w.heap.size _ _ (0, 0) _ rfl HA.out Try.underlying72 rfl HI.out) rfl ?_
  exact ⟨G7.setRow (Nat.le_refl _) _, _, _, _, rfl, mkT_Op, C7.setOwn (own_lt h (Nat.le_refl _)) (fun k hk => setRow_other _ _ _ _ hk), (T1.out.two (T2.out.two (T3.out.two (T4.out.two (T5.out.two (T6.out.two T7.out))))))⟩

end Go.Proofs.Ytbhpbiimfcdgaaa
