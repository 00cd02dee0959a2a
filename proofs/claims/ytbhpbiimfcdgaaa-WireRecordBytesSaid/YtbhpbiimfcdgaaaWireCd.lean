/-
  The document's reader, by contract: commands (made by wip/gen_wire.py)
-/
import Derived.Test.YtbhpbiimfcdgaaaWireCc
namespace Go.Proofs.Ytbhpbiimfcdgaaa
open Go.RowKit
set_option linter.unusedVariables false

set_option maxRecDepth 100000 in
set_option maxHeartbeats 2000000 in
theorem c_command (p c : Nat) (B : Nat) (bs : List UInt8) (i : Nat) (bad : Bool) (w : World) (h : Cu w p c B bs i bad) :
    Calls Try.prog 41 #[.pointer (some ⟨p, 0, none⟩)] w (CPost w p c B bs shCommand i bad agg) := by
  have hg := own_lt h (Nat.le_succ w.heap.size)
  have hp0 : Off2 p c w.heap.size := by have := own_lt h (Nat.le_refl w.heap.size); exact ⟨this.2.1, this.2.2⟩
  have hp1 : Off2 p c (w.heap.size + 1) := ⟨hg.2.1, hg.2.2⟩
  have C0 := (h.alloc (.cells #[.int .i64 0, .string ByteArray.empty, .string ByteArray.empty, .string ByteArray.empty, .string ByteArray.empty, .string ByteArray.empty, .slice none 0 0, .string ByteArray.empty, .int .i64 0, .slice none 0 0, .int .i64 0, .int .i64 0, .string ByteArray.empty, .string ByteArray.empty, .string ByteArray.empty, .int .i64 0, .bool false] 30)).alloc (.cells #[.int .i64 0, .string ByteArray.empty, .string ByteArray.empty, .string ByteArray.empty, .string ByteArray.empty, .string ByteArray.empty, .slice none 0 0, .string ByteArray.empty, .int .i64 0, .slice none 0 0, .int .i64 0, .int .i64 0, .string ByteArray.empty, .string ByteArray.empty, .string ByteArray.empty, .int .i64 0, .bool false] 30)
  have G0 : Keeps (Off2 p c) w ((w.alloc (.cells #[.int .i64 0, .string ByteArray.empty, .string ByteArray.empty, .string ByteArray.empty, .string ByteArray.empty, .string ByteArray.empty, .slice none 0 0, .string ByteArray.empty, .int .i64 0, .slice none 0 0, .int .i64 0, .int .i64 0, .string ByteArray.empty, .string ByteArray.empty, .string ByteArray.empty, .int .i64 0, .bool false] 30)).alloc (.cells #[.int .i64 0, .string ByteArray.empty, .string ByteArray.empty, .string ByteArray.empty, .string ByteArray.empty, .string ByteArray.empty, .slice none 0 0, .string ByteArray.empty, .int .i64 0, .slice none 0 0, .int .i64 0, .int .i64 0, .string ByteArray.empty, .string ByteArray.empty, .string ByteArray.empty, .int .i64 0, .bool false] 30)) := (Keeps.refl.alloc _).alloc _
  have A0 := Lib.hid (heap_alloc2_old w (.cells #[.int .i64 0, .string ByteArray.empty, .string ByteArray.empty, .string ByteArray.empty, .string ByteArray.empty, .string ByteArray.empty, .slice none 0 0, .string ByteArray.empty, .int .i64 0, .slice none 0 0, .int .i64 0, .int .i64 0, .string ByteArray.empty, .string ByteArray.empty, .string ByteArray.empty, .int .i64 0, .bool false] 30) (.cells #[.int .i64 0, .string ByteArray.empty, .string ByteArray.empty, .string ByteArray.empty, .string ByteArray.empty, .string ByteArray.empty, .slice none 0 0, .string ByteArray.empty, .int .i64 0, .slice none 0 0, .int .i64 0, .int .i64 0, .string ByteArray.empty, .string ByteArray.empty, .string ByteArray.empty, .int .i64 0, .bool false] 30))
  have D0 := Lib.hid (heap_alloc2_new w (.cells #[.int .i64 0, .string ByteArray.empty, .string ByteArray.empty, .string ByteArray.empty, .string ByteArray.empty, .string ByteArray.empty, .slice none 0 0, .string ByteArray.empty, .int .i64 0, .slice none 0 0, .int .i64 0, .int .i64 0, .string ByteArray.empty, .string ByteArray.empty, .string ByteArray.empty, .int .i64 0, .bool false] 30) (.cells #[.int .i64 0, .string ByteArray.empty, .string ByteArray.empty, .string ByteArray.empty, .string ByteArray.empty, .string ByteArray.empty, .slice none 0 0, .string ByteArray.empty, .int .i64 0, .slice none 0 0, .int .i64 0, .int .i64 0, .string ByteArray.empty, .string ByteArray.empty, .string ByteArray.empty, .int .i64 0, .bool false] 30))
  have hi : (Try.prog.info? 30).map (·.size) = some 17 := by kernel_rfl
  have HI := Lib.hid hi; clear hi
  have h1z : (#[.int .i64 0, .string ByteArray.empty, .string ByteArray.empty, .string ByteArray.empty, .string ByteArray.empty, .string ByteArray.empty, .slice none 0 0, .string ByteArray.empty, .int .i64 0, .slice none 0 0, .int .i64 0, .int .i64 0, .string ByteArray.empty, .string ByteArray.empty, .string ByteArray.empty, .int .i64 0, .bool false] : Array Value).all (·.oneCell') = true := by kernel_rfl
  have H1Z := Lib.hid h1z; clear h1z
  have HNZ : Hid ((w.alloc (.cells #[.int .i64 0, .string ByteArray.empty, .string ByteArray.empty, .string ByteArray.empty, .string ByteArray.empty, .string ByteArray.empty, .slice none 0 0, .string ByteArray.empty, .int .i64 0, .slice none 0 0, .int .i64 0, .int .i64 0, .string ByteArray.empty, .string ByteArray.empty, .string ByteArray.empty, .int .i64 0, .bool false] 30)).heap.size = w.heap.size + 1) := Lib.hid (by simp)
  go_enter Try.func41, Try.ntmps41
  go_wp2_with (refine wpList_store_last (w.alloc (.cells #[.int .i64 0, .string ByteArray.empty, .string ByteArray.empty, .string ByteArray.empty, .string ByteArray.empty, .string ByteArray.empty, .slice none 0 0, .string ByteArray.empty, .int .i64 0, .slice none 0 0, .int .i64 0, .int .i64 0, .string ByteArray.empty, .string ByteArray.empty, .string ByteArray.empty, .int .i64 0, .bool false] 30)) rfl 30 _ _ rfl 30 #[.int .i64 0, .string ByteArray.empty, .string ByteArray.empty, .string ByteArray.empty, .string ByteArray.empty, .string ByteArray.empty, .slice none 0 0, .string ByteArray.empty, .int .i64 0, .slice none 0 0, .int .i64 0, .int .i64 0, .string ByteArray.empty, .string ByteArray.empty, .string ByteArray.empty, .int .i64 0, .bool false] #[.int .i64 0, .string ByteArray.empty, .string ByteArray.empty, .string ByteArray.empty, .string ByteArray.empty, .string ByteArray.empty, .slice none 0 0, .string ByteArray.empty, .int .i64 0, .slice none 0 0, .int .i64 0, .int .i64 0, .string ByteArray.empty, .string ByteArray.empty, .string ByteArray.empty, .int .i64 0, .bool false] (w.heap.size + 1) HNZ.out rfl rfl HI.out rfl H1Z.out ?_)
  refine (c_num p c B bs _ _ _ C0).mono ?_
  rintro e w1 ⟨K1, j1, bad1, q1, rfl, J1, C1, T1⟩
  obtain ⟨n0, rfl⟩ := J1
  simp only [one, List.headD_cons]
  have A1' := K1.row A0.out hp0
  have D1' := K1.row D0.out hp1
  have G1' := G0.trans K1
  have cc := box_cell D1' 0 rfl
  have ff : w1.frozen? ⟨w.heap.size + 1, 0, none⟩ = false := frozen_of_row w1 _ 0 _ _ D1'
  have C1 := cu_set (g := w.heap.size + 1) (o := 0) (v := .int .i64 n0) C1 hg
  have G1 : Keeps (Off2 p c) w (w1.setCell ⟨w.heap.size + 1, 0, none⟩ (.int .i64 n0)) := keeps_set G1' (by omega)
  have A1 := Lib.hid (row_set (b := w.heap.size + 1) (o := 0) (v := .int .i64 n0) A1' (by omega))
  have D1 : Hid ((w1.setCell ⟨w.heap.size + 1, 0, none⟩ (.int .i64 n0)).heap[w.heap.size + 1]? = some (.cells #[.int .i64 n0, .string ByteArray.empty, .string ByteArray.empty, .string ByteArray.empty, .string ByteArray.empty, .string ByteArray.empty, .slice none 0 0, .string ByteArray.empty, .int .i64 0, .slice none 0 0, .int .i64 0, .int .i64 0, .string ByteArray.empty, .string ByteArray.empty, .string ByteArray.empty, .int .i64 0, .bool false] 30 (0, 0))) := Lib.hid (setCells_mid [.int .i64 n0] [.int .i64 0] [] [.string ByteArray.empty, .string ByteArray.empty, .string ByteArray.empty, .string ByteArray.empty, .string ByteArray.empty, .slice none 0 0, .string ByteArray.empty, .int .i64 0, .slice none 0 0, .int .i64 0, .int .i64 0, .string ByteArray.empty, .string ByteArray.empty, .string ByteArray.empty, .int .i64 0, .bool false] w1 rfl D1')
  clear A1' D1' G1'
  go_wp2_with fail
  clear cc ff
  have T1 := Lib.hid T1
  refine (c_text p c B bs _ _ _ C1).mono ?_
  rintro e w2 ⟨K2, j2, bad2, q2, rfl, J2, C2, T2⟩
  obtain ⟨s1, rfl⟩ := J2
  simp only [one, List.headD_cons]
  have A2' := K2.row A1.out hp0
  have D2' := K2.row D1.out hp1
  have G2' := G1.trans K2
  have cc := box_cell D2' 1 rfl
  have ff : w2.frozen? ⟨w.heap.size + 1, 1, none⟩ = false := frozen_of_row w2 _ 1 _ _ D2'
  have C2 := cu_set (g := w.heap.size + 1) (o := 1) (v := .string s1) C2 hg
  have G2 : Keeps (Off2 p c) w (w2.setCell ⟨w.heap.size + 1, 1, none⟩ (.string s1)) := keeps_set G2' (by omega)
  have A2 := Lib.hid (row_set (b := w.heap.size + 1) (o := 1) (v := .string s1) A2' (by omega))
  have D2 : Hid ((w2.setCell ⟨w.heap.size + 1, 1, none⟩ (.string s1)).heap[w.heap.size + 1]? = some (.cells #[.int .i64 n0, .string s1, .string ByteArray.empty, .string ByteArray.empty, .string ByteArray.empty, .string ByteArray.empty, .slice none 0 0, .string ByteArray.empty, .int .i64 0, .slice none 0 0, .int .i64 0, .int .i64 0, .string ByteArray.empty, .string ByteArray.empty, .string ByteArray.empty, .int .i64 0, .bool false] 30 (0, 0))) := Lib.hid (setCells_mid [.string s1] [.string ByteArray.empty] [.int .i64 n0] [.string ByteArray.empty, .string ByteArray.empty, .string ByteArray.empty, .string ByteArray.empty, .slice none 0 0, .string ByteArray.empty, .int .i64 0, .slice none 0 0, .int .i64 0, .int .i64 0, .string ByteArray.empty, .string ByteArray.empty, .string ByteArray.empty, .int .i64 0, .bool false] w2 rfl D2')
  clear A2' D2' G2'
  go_wp2_with fail
  clear cc ff
  have T2 := Lib.hid T2
  refine (c_text p c B bs _ _ _ C2).mono ?_
  rintro e w3 ⟨K3, j3, bad3, q3, rfl, J3, C3, T3⟩
  obtain ⟨s2, rfl⟩ := J3
  simp only [one, List.headD_cons]
  have A3' := K3.row A2.out hp0
  have D3' := K3.row D2.out hp1
  have G3' := G2.trans K3
  have cc := box_cell D3' 2 rfl
  have ff : w3.frozen? ⟨w.heap.size + 1, 2, none⟩ = false := frozen_of_row w3 _ 2 _ _ D3'
  have C3 := cu_set (g := w.heap.size + 1) (o := 2) (v := .string s2) C3 hg
  have G3 : Keeps (Off2 p c) w (w3.setCell ⟨w.heap.size + 1, 2, none⟩ (.string s2)) := keeps_set G3' (by omega)
  have A3 := Lib.hid (row_set (b := w.heap.size + 1) (o := 2) (v := .string s2) A3' (by omega))
  have D3 : Hid ((w3.setCell ⟨w.heap.size + 1, 2, none⟩ (.string s2)).heap[w.heap.size + 1]? = some (.cells #[.int .i64 n0, .string s1, .string s2, .string ByteArray.empty, .string ByteArray.empty, .string ByteArray.empty, .slice none 0 0, .string ByteArray.empty, .int .i64 0, .slice none 0 0, .int .i64 0, .int .i64 0, .string ByteArray.empty, .string ByteArray.empty, .string ByteArray.empty, .int .i64 0, .bool false] 30 (0, 0))) := Lib.hid (setCells_mid [.string s2] [.string ByteArray.empty] [.int .i64 n0, .string s1] [.string ByteArray.empty, .string ByteArray.empty, .string ByteArray.empty, .slice none 0 0, .string ByteArray.empty, .int .i64 0, .slice none 0 0, .int .i64 0, .int .i64 0, .string ByteArray.empty, .string ByteArray.empty, .string ByteArray.empty, .int .i64 0, .bool false] w3 rfl D3')
  clear A3' D3' G3'
  go_wp2_with fail
  clear cc ff
  have T3 := Lib.hid T3
  refine (c_text p c B bs _ _ _ C3).mono ?_
  rintro e w4 ⟨K4, j4, bad4, q4, rfl, J4, C4, T4⟩
  obtain ⟨s3, rfl⟩ := J4
  simp only [one, List.headD_cons]
  have A4' := K4.row A3.out hp0
  have D4' := K4.row D3.out hp1
  have G4' := G3.trans K4
  have cc := box_cell D4' 3 rfl
  have ff : w4.frozen? ⟨w.heap.size + 1, 3, none⟩ = false := frozen_of_row w4 _ 3 _ _ D4'
  have C4 := cu_set (g := w.heap.size + 1) (o := 3) (v := .string s3) C4 hg
  have G4 : Keeps (Off2 p c) w (w4.setCell ⟨w.heap.size + 1, 3, none⟩ (.string s3)) := keeps_set G4' (by omega)
  have A4 := Lib.hid (row_set (b := w.heap.size + 1) (o := 3) (v := .string s3) A4' (by omega))
  have D4 : Hid ((w4.setCell ⟨w.heap.size + 1, 3, none⟩ (.string s3)).heap[w.heap.size + 1]? = some (.cells #[.int .i64 n0, .string s1, .string s2, .string s3, .string ByteArray.empty, .string ByteArray.empty, .slice none 0 0, .string ByteArray.empty, .int .i64 0, .slice none 0 0, .int .i64 0, .int .i64 0, .string ByteArray.empty, .string ByteArray.empty, .string ByteArray.empty, .int .i64 0, .bool false] 30 (0, 0))) := Lib.hid (setCells_mid [.string s3] [.string ByteArray.empty] [.int .i64 n0, .string s1, .string s2] [.string ByteArray.empty, .string ByteArray.empty, .slice none 0 0, .string ByteArray.empty, .int .i64 0, .slice none 0 0, .int .i64 0, .int .i64 0, .string ByteArray.empty, .string ByteArray.empty, .string ByteArray.empty, .int .i64 0, .bool false] w4 rfl D4')
  clear A4' D4' G4'
  go_wp2_with fail
  clear cc ff
  have T4 := Lib.hid T4
  refine (c_text p c B bs _ _ _ C4).mono ?_
  rintro e w5 ⟨K5, j5, bad5, q5, rfl, J5, C5, T5⟩
  obtain ⟨s4, rfl⟩ := J5
  simp only [one, List.headD_cons]
  have A5' := K5.row A4.out hp0
  have D5' := K5.row D4.out hp1
  have G5' := G4.trans K5
  have cc := box_cell D5' 4 rfl
  have ff : w5.frozen? ⟨w.heap.size + 1, 4, none⟩ = false := frozen_of_row w5 _ 4 _ _ D5'
  have C5 := cu_set (g := w.heap.size + 1) (o := 4) (v := .string s4) C5 hg
  have G5 : Keeps (Off2 p c) w (w5.setCell ⟨w.heap.size + 1, 4, none⟩ (.string s4)) := keeps_set G5' (by omega)
  have A5 := Lib.hid (row_set (b := w.heap.size + 1) (o := 4) (v := .string s4) A5' (by omega))
  have D5 : Hid ((w5.setCell ⟨w.heap.size + 1, 4, none⟩ (.string s4)).heap[w.heap.size + 1]? = some (.cells #[.int .i64 n0, .string s1, .string s2, .string s3, .string s4, .string ByteArray.empty, .slice none 0 0, .string ByteArray.empty, .int .i64 0, .slice none 0 0, .int .i64 0, .int .i64 0, .string ByteArray.empty, .string ByteArray.empty, .string ByteArray.empty, .int .i64 0, .bool false] 30 (0, 0))) := Lib.hid (setCells_mid [.string s4] [.string ByteArray.empty] [.int .i64 n0, .string s1, .string s2, .string s3] [.string ByteArray.empty, .slice none 0 0, .string ByteArray.empty, .int .i64 0, .slice none 0 0, .int .i64 0, .int .i64 0, .string ByteArray.empty, .string ByteArray.empty, .string ByteArray.empty, .int .i64 0, .bool false] w5 rfl D5')
  clear A5' D5' G5'
  go_wp2_with fail
  clear cc ff
  have T5 := Lib.hid T5
  refine (c_text p c B bs _ _ _ C5).mono ?_
  rintro e w6 ⟨K6, j6, bad6, q6, rfl, J6, C6, T6⟩
  obtain ⟨s5, rfl⟩ := J6
  simp only [one, List.headD_cons]
  have A6' := K6.row A5.out hp0
  have D6' := K6.row D5.out hp1
  have G6' := G5.trans K6
  have cc := box_cell D6' 5 rfl
  have ff : w6.frozen? ⟨w.heap.size + 1, 5, none⟩ = false := frozen_of_row w6 _ 5 _ _ D6'
  have C6 := cu_set (g := w.heap.size + 1) (o := 5) (v := .string s5) C6 hg
  have G6 : Keeps (Off2 p c) w (w6.setCell ⟨w.heap.size + 1, 5, none⟩ (.string s5)) := keeps_set G6' (by omega)
  have A6 := Lib.hid (row_set (b := w.heap.size + 1) (o := 5) (v := .string s5) A6' (by omega))
  have D6 : Hid ((w6.setCell ⟨w.heap.size + 1, 5, none⟩ (.string s5)).heap[w.heap.size + 1]? = some (.cells #[.int .i64 n0, .string s1, .string s2, .string s3, .string s4, .string s5, .slice none 0 0, .string ByteArray.empty, .int .i64 0, .slice none 0 0, .int .i64 0, .int .i64 0, .string ByteArray.empty, .string ByteArray.empty, .string ByteArray.empty, .int .i64 0, .bool false] 30 (0, 0))) := Lib.hid (setCells_mid [.string s5] [.string ByteArray.empty] [.int .i64 n0, .string s1, .string s2, .string s3, .string s4] [.slice none 0 0, .string ByteArray.empty, .int .i64 0, .slice none 0 0, .int .i64 0, .int .i64 0, .string ByteArray.empty, .string ByteArray.empty, .string ByteArray.empty, .int .i64 0, .bool false] w6 rfl D6')
  clear A6' D6' G6'
  go_wp2_with fail
  clear cc ff
  have T6 := Lib.hid T6
  refine (c_listColumn p c B bs _ _ _ C6).mono ?_
  rintro e w7 ⟨K7, j7, bad7, q7, rfl, J7, C7, T7⟩
  obtain ⟨a6, l6, c6, rfl⟩ := J7
  simp only [one, List.headD_cons]
  have A7' := K7.row A6.out hp0
  have D7' := K7.row D6.out hp1
  have G7' := G6.trans K7
  have cc := box_cell D7' 6 rfl
  have ff : w7.frozen? ⟨w.heap.size + 1, 6, none⟩ = false := frozen_of_row w7 _ 6 _ _ D7'
  have C7 := cu_set (g := w.heap.size + 1) (o := 6) (v := .slice a6 l6 c6) C7 hg
  have G7 : Keeps (Off2 p c) w (w7.setCell ⟨w.heap.size + 1, 6, none⟩ (.slice a6 l6 c6)) := keeps_set G7' (by omega)
  have A7 := Lib.hid (row_set (b := w.heap.size + 1) (o := 6) (v := .slice a6 l6 c6) A7' (by omega))
  have D7 : Hid ((w7.setCell ⟨w.heap.size + 1, 6, none⟩ (.slice a6 l6 c6)).heap[w.heap.size + 1]? = some (.cells #[.int .i64 n0, .string s1, .string s2, .string s3, .string s4, .string s5, .slice a6 l6 c6, .string ByteArray.empty, .int .i64 0, .slice none 0 0, .int .i64 0, .int .i64 0, .string ByteArray.empty, .string ByteArray.empty, .string ByteArray.empty, .int .i64 0, .bool false] 30 (0, 0))) := Lib.hid (setCells_mid [.slice a6 l6 c6] [.slice none 0 0] [.int .i64 n0, .string s1, .string s2, .string s3, .string s4, .string s5] [.string ByteArray.empty, .int .i64 0, .slice none 0 0, .int .i64 0, .int .i64 0, .string ByteArray.empty, .string ByteArray.empty, .string ByteArray.empty, .int .i64 0, .bool false] w7 rfl D7')
  clear A7' D7' G7'
  go_wp2_with fail
  clear cc ff
  have T7 := Lib.hid T7
  refine (c_rule p c B bs _ _ _ C7).mono ?_
  rintro e w8 ⟨K8, j8, bad8, q8, rfl, J8, C8, T8⟩
  obtain ⟨s7_0, n7_1, a7_2, l7_2, c7_2, n7_3, n7_4, s7_5, s7_6, s7_7, rfl⟩ := typed_Rule J8
  simp only [agg]
  have A8' := K8.row A7.out hp0
  have D8' := K8.row D7.out hp1
  have G8' := G7.trans K8
  have C8 := cu_sets (g := w.heap.size + 1) (o := 7) (vs := [.string s7_0, .int .i64 n7_1, .slice a7_2 l7_2 c7_2, .int .i64 n7_3, .int .i64 n7_4, .string s7_5, .string s7_6, .string s7_7]) C8 hg
  have G8 : Keeps (Off2 p c) w (w8.setCells (w.heap.size + 1) 7 [.string s7_0, .int .i64 n7_1, .slice a7_2 l7_2 c7_2, .int .i64 n7_3, .int .i64 n7_4, .string s7_5, .string s7_6, .string s7_7]) := keeps_sets G8' (by omega)
  have A8 := Lib.hid (row_sets (b := w.heap.size + 1) (o := 7) (vs := [.string s7_0, .int .i64 n7_1, .slice a7_2 l7_2 c7_2, .int .i64 n7_3, .int .i64 n7_4, .string s7_5, .string s7_6, .string s7_7]) A8' (by omega))
  have D8 : Hid ((w8.setCells (w.heap.size + 1) 7 [.string s7_0, .int .i64 n7_1, .slice a7_2 l7_2 c7_2, .int .i64 n7_3, .int .i64 n7_4, .string s7_5, .string s7_6, .string s7_7]).heap[w.heap.size + 1]? = some (.cells #[.int .i64 n0, .string s1, .string s2, .string s3, .string s4, .string s5, .slice a6 l6 c6, .string s7_0, .int .i64 n7_1, .slice a7_2 l7_2 c7_2, .int .i64 n7_3, .int .i64 n7_4, .string s7_5, .string s7_6, .string s7_7, .int .i64 0, .bool false] 30 (0, 0))) := Lib.hid (setCells_mid [.string s7_0, .int .i64 n7_1, .slice a7_2 l7_2 c7_2, .int .i64 n7_3, .int .i64 n7_4, .string s7_5, .string s7_6, .string s7_7] [.string ByteArray.empty, .int .i64 0, .slice none 0 0, .int .i64 0, .int .i64 0, .string ByteArray.empty, .string ByteArray.empty, .string ByteArray.empty] [.int .i64 n0, .string s1, .string s2, .string s3, .string s4, .string s5, .slice a6 l6 c6] [.int .i64 0, .bool false] w8 rfl D8')
  have th := Lib.hid (there_row D8' 7 8 (by simp))
  have hs : (Try.prog.info? 27).map (·.size) = some 8 := by kernel_rfl
  have HS := Lib.hid hs; clear hs
  have ho := Lib.hid (all_oneCell_toArray (mkT_Rule (s0 := s7_0) (n1 := n7_1) (a2 := a7_2) (l2 := l7_2) (c2 := c7_2) (n3 := n7_3) (n4 := n7_4) (s5 := s7_5) (s6 := s7_6) (s7 := s7_7)).one)
  obtain ⟨v8, hv8⟩ : ∃ v, w8.setCells (w.heap.size + 1) 7 [.string s7_0, .int .i64 n7_1, .slice a7_2 l7_2 c7_2, .int .i64 n7_3, .int .i64 n7_4, .string s7_5, .string s7_6, .string s7_7] = v := ⟨_, rfl⟩
  rw [hv8] at C8 G8 A8 D8
  have HV8 := Lib.hid hv8; clear hv8
  clear A8' D8' G8'
  go_wp2_with (refine wpList_store_part rfl 27 _ _ rfl (w.heap.size + 1) 7 #[.string s7_0, .int .i64 n7_1, .slice a7_2 l7_2 c7_2, .int .i64 n7_3, .int .i64 n7_4, .string s7_5, .string s7_6, .string s7_7] rfl rfl 8 rfl th.out HS.out ho.out v8 HV8.out ?_)
  clear th HS ho
  have T8 := Lib.hid T8
  refine (c_num p c B bs _ _ _ C8).mono ?_
  rintro e w9 ⟨K9, j9, bad9, q9, rfl, J9, C9, T9⟩
  obtain ⟨n8, rfl⟩ := J9
  simp only [one, List.headD_cons]
  have A9' := K9.row A8.out hp0
  have D9' := K9.row D8.out hp1
  have G9' := G8.trans K9
  have cc := box_cell D9' 15 rfl
  have ff : w9.frozen? ⟨w.heap.size + 1, 15, none⟩ = false := frozen_of_row w9 _ 15 _ _ D9'
  have C9 := cu_set (g := w.heap.size + 1) (o := 15) (v := .int .i64 n8) C9 hg
  have G9 : Keeps (Off2 p c) w (w9.setCell ⟨w.heap.size + 1, 15, none⟩ (.int .i64 n8)) := keeps_set G9' (by omega)
  have A9 := Lib.hid (row_set (b := w.heap.size + 1) (o := 15) (v := .int .i64 n8) A9' (by omega))
  have D9 : Hid ((w9.setCell ⟨w.heap.size + 1, 15, none⟩ (.int .i64 n8)).heap[w.heap.size + 1]? = some (.cells #[.int .i64 n0, .string s1, .string s2, .string s3, .string s4, .string s5, .slice a6 l6 c6, .string s7_0, .int .i64 n7_1, .slice a7_2 l7_2 c7_2, .int .i64 n7_3, .int .i64 n7_4, .string s7_5, .string s7_6, .string s7_7, .int .i64 n8, .bool false] 30 (0, 0))) := Lib.hid (setCells_mid [.int .i64 n8] [.int .i64 0] [.int .i64 n0, .string s1, .string s2, .string s3, .string s4, .string s5, .slice a6 l6 c6, .string s7_0, .int .i64 n7_1, .slice a7_2 l7_2 c7_2, .int .i64 n7_3, .int .i64 n7_4, .string s7_5, .string s7_6, .string s7_7] [.bool false] w9 rfl D9')
  clear A9' D9' G9'
  go_wp2_with fail
  clear cc ff
  have T9 := Lib.hid T9
  refine (c_flag p c B bs _ _ _ C9).mono ?_
  rintro e w10 ⟨K10, j10, bad10, q10, rfl, J10, C10, T10⟩
  obtain ⟨b9, rfl⟩ := J10
  simp only [one, List.headD_cons]
  have A10' := K10.row A9.out hp0
  have D10' := K10.row D9.out hp1
  have G10' := G9.trans K10
  have cc := box_cell D10' 16 rfl
  have ff : w10.frozen? ⟨w.heap.size + 1, 16, none⟩ = false := frozen_of_row w10 _ 16 _ _ D10'
  have C10 := cu_set (g := w.heap.size + 1) (o := 16) (v := .bool b9) C10 hg
  have G10 : Keeps (Off2 p c) w (w10.setCell ⟨w.heap.size + 1, 16, none⟩ (.bool b9)) := keeps_set G10' (by omega)
  have A10 := Lib.hid (row_set (b := w.heap.size + 1) (o := 16) (v := .bool b9) A10' (by omega))
  have D10 : Hid ((w10.setCell ⟨w.heap.size + 1, 16, none⟩ (.bool b9)).heap[w.heap.size + 1]? = some (.cells #[.int .i64 n0, .string s1, .string s2, .string s3, .string s4, .string s5, .slice a6 l6 c6, .string s7_0, .int .i64 n7_1, .slice a7_2 l7_2 c7_2, .int .i64 n7_3, .int .i64 n7_4, .string s7_5, .string s7_6, .string s7_7, .int .i64 n8, .bool b9] 30 (0, 0))) := Lib.hid (setCells_mid [.bool b9] [.bool false] [.int .i64 n0, .string s1, .string s2, .string s3, .string s4, .string s5, .slice a6 l6 c6, .string s7_0, .int .i64 n7_1, .slice a7_2 l7_2 c7_2, .int .i64 n7_3, .int .i64 n7_4, .string s7_5, .string s7_6, .string s7_7, .int .i64 n8] [] w10 rfl D10')
  clear A10' D10' G10'
  have T10 := Lib.hid T10
  have HA := Lib.hid (setRow_heap _ w.heap.size _ #[.int .i64 n0, .string s1, .string s2, .string s3, .string s4, .string s5, .slice a6 l6 c6, .string s7_0, .int .i64 n7_1, .slice a7_2 l7_2 c7_2, .int .i64 n7_3, .int .i64 n7_4, .string s7_5, .string s7_6, .string s7_7, .int .i64 n8, .bool b9] _ _ A10.out)
  have rng := Lib.hid (box_range (cs := [.int .i64 n0, .string s1, .string s2, .string s3, .string s4, .string s5, .slice a6 l6 c6, .string s7_0, .int .i64 n7_1, .slice a7_2 l7_2 c7_2, .int .i64 n7_3, .int .i64 n7_4, .string s7_5, .string s7_6, .string s7_7, .int .i64 n8, .bool b9]) D10.out)
  have h1 := Lib.hid (all_oneCell_toArray (mkT_Command (n0 := n0) (s1 := s1) (s2 := s2) (s3 := s3) (s4 := s4) (s5 := s5) (a6 := a6) (l6 := l6) (c6 := c6) (s7_0 := s7_0) (n7_1 := n7_1) (a7_2 := a7_2) (l7_2 := l7_2) (c7_2 := c7_2) (n7_3 := n7_3) (n7_4 := n7_4) (s7_5 := s7_5) (s7_6 := s7_6) (s7_7 := s7_7) (n8 := n8) (b9 := b9)).one)
  go_wp2_with (first | (refine wpList_load_mid rfl 30 _ rfl (w.heap.size + 1) 0 rfl _ _ rng.out Try.underlying30 rfl HI.out ?_) | (refine wpList_store_row rfl 30 _ _ rfl w.heap.size 30 _ #[.int .i64 n0, .string s1, .string s2, .string s3, .string s4, .string s5, .slice a6 l6 c6, .string s7_0, .int .i64 n7_1, .slice a7_2 l7_2 c7_2, .int .i64 n7_3, .int .i64 n7_4, .string s7_5, .string s7_6, .string s7_7, .int .i64 n8, .bool b9] rfl rfl A10.out HI.out rfl h1.out ?_))
  refine bodyPost_ret (results_cell_row rfl _ _ w.heap.size _ _ (0, 0) _ rfl HA.out Try.underlying30 rfl HI.out) rfl ?_
  exact ⟨G10.setRow (Nat.le_refl _) _, _, _, _, rfl, mkT_Command, C10.setOwn (own_lt h (Nat.le_refl _)) (fun k hk => setRow_other _ _ _ _ hk), (T1.out.two (T2.out.two (T3.out.two (T4.out.two (T5.out.two (T6.out.two (T7.out.two (T8.out.two (T9.out.two T10.out)))))))))⟩

end Go.Proofs.Ytbhpbiimfcdgaaa
