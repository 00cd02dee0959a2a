/-
  The document's reader, by contract: rules, configurations, records (made by wip/gen_wire.py)
-/
import Derived.Test.YtbhpbiimfcdgaaaGreatWireCb
namespace Go.Proofs.YtbhpbiimfcdgaaaGreat
open Go.RowKit
set_option linter.unusedVariables false

set_option maxRecDepth 100000 in
set_option maxHeartbeats 2000000 in
theorem c_rule (p c : Nat) (B : Nat) (bs : List UInt8) (i : Nat) (bad : Bool) (w : World) (h : Cu w p c B bs i bad) :
    Calls Tryz.prog 96 #[.pointer (some ⟨p, 0, none⟩)] w (CPost w p c B bs shRule i bad agg) := by
  have hg := own_lt h (Nat.le_succ w.heap.size)
  have hp0 : Off2 p c w.heap.size := by have := own_lt h (Nat.le_refl w.heap.size); exact ⟨this.2.1, this.2.2⟩
  have hp1 : Off2 p c (w.heap.size + 1) := ⟨hg.2.1, hg.2.2⟩
  have C0 := (h.alloc (.cells #[.string ByteArray.empty, .int .i64 0, .slice none 0 0, .int .i64 0, .int .i64 0, .string ByteArray.empty, .string ByteArray.empty, .string ByteArray.empty] 67)).alloc (.cells #[.string ByteArray.empty, .int .i64 0, .slice none 0 0, .int .i64 0, .int .i64 0, .string ByteArray.empty, .string ByteArray.empty, .string ByteArray.empty] 67)
  have G0 : Keeps (Off2 p c) w ((w.alloc (.cells #[.string ByteArray.empty, .int .i64 0, .slice none 0 0, .int .i64 0, .int .i64 0, .string ByteArray.empty, .string ByteArray.empty, .string ByteArray.empty] 67)).alloc (.cells #[.string ByteArray.empty, .int .i64 0, .slice none 0 0, .int .i64 0, .int .i64 0, .string ByteArray.empty, .string ByteArray.empty, .string ByteArray.empty] 67)) := (Keeps.refl.alloc _).alloc _
  have A0 := Lib.hid (heap_alloc2_old w (.cells #[.string ByteArray.empty, .int .i64 0, .slice none 0 0, .int .i64 0, .int .i64 0, .string ByteArray.empty, .string ByteArray.empty, .string ByteArray.empty] 67) (.cells #[.string ByteArray.empty, .int .i64 0, .slice none 0 0, .int .i64 0, .int .i64 0, .string ByteArray.empty, .string ByteArray.empty, .string ByteArray.empty] 67))
  have D0 := Lib.hid (heap_alloc2_new w (.cells #[.string ByteArray.empty, .int .i64 0, .slice none 0 0, .int .i64 0, .int .i64 0, .string ByteArray.empty, .string ByteArray.empty, .string ByteArray.empty] 67) (.cells #[.string ByteArray.empty, .int .i64 0, .slice none 0 0, .int .i64 0, .int .i64 0, .string ByteArray.empty, .string ByteArray.empty, .string ByteArray.empty] 67))
  have hi : (Tryz.prog.info? 67).map (·.size) = some 8 := by kernel_rfl
  have HI := Lib.hid hi; clear hi
  have h1z : (#[.string ByteArray.empty, .int .i64 0, .slice none 0 0, .int .i64 0, .int .i64 0, .string ByteArray.empty, .string ByteArray.empty, .string ByteArray.empty] : Array Value).all (·.oneCell') = true := by kernel_rfl
  have H1Z := Lib.hid h1z; clear h1z
  have HNZ : Hid ((w.alloc (.cells #[.string ByteArray.empty, .int .i64 0, .slice none 0 0, .int .i64 0, .int .i64 0, .string ByteArray.empty, .string ByteArray.empty, .string ByteArray.empty] 67)).heap.size = w.heap.size + 1) := Lib.hid (by simp)
  go_enter Tryz.func96, Tryz.ntmps96
  go_wp2_with (refine wpList_store_last (w.alloc (.cells #[.string ByteArray.empty, .int .i64 0, .slice none 0 0, .int .i64 0, .int .i64 0, .string ByteArray.empty, .string ByteArray.empty, .string ByteArray.empty] 67)) rfl 67 _ _ rfl 67 #[.string ByteArray.empty, .int .i64 0, .slice none 0 0, .int .i64 0, .int .i64 0, .string ByteArray.empty, .string ByteArray.empty, .string ByteArray.empty] #[.string ByteArray.empty, .int .i64 0, .slice none 0 0, .int .i64 0, .int .i64 0, .string ByteArray.empty, .string ByteArray.empty, .string ByteArray.empty] (w.heap.size + 1) HNZ.out rfl rfl HI.out rfl H1Z.out ?_)
  refine (c_text p c B bs _ _ _ C0).mono ?_
  rintro e w1 ⟨K1, j1, bad1, q1, rfl, J1, C1, T1⟩
  obtain ⟨s0, rfl⟩ := J1
  simp only [one, List.headD_cons]
  have A1' := K1.row A0.out hp0
  have D1' := K1.row D0.out hp1
  have G1' := G0.trans K1
  have cc := box_cell D1' 0 rfl
  have ff : w1.frozen? ⟨w.heap.size + 1, 0, none⟩ = false := frozen_of_row w1 _ 0 _ _ D1'
  have C1 := cu_set (g := w.heap.size + 1) (o := 0) (v := .string s0) C1 hg
  have G1 : Keeps (Off2 p c) w (w1.setCell ⟨w.heap.size + 1, 0, none⟩ (.string s0)) := keeps_set G1' (by omega)
  have A1 := Lib.hid (row_set (b := w.heap.size + 1) (o := 0) (v := .string s0) A1' (by omega))
  have D1 : Hid ((w1.setCell ⟨w.heap.size + 1, 0, none⟩ (.string s0)).heap[w.heap.size + 1]? = some (.cells #[.string s0, .int .i64 0, .slice none 0 0, .int .i64 0, .int .i64 0, .string ByteArray.empty, .string ByteArray.empty, .string ByteArray.empty] 67 (0, 0))) := Lib.hid (setCells_mid [.string s0] [.string ByteArray.empty] [] [.int .i64 0, .slice none 0 0, .int .i64 0, .int .i64 0, .string ByteArray.empty, .string ByteArray.empty, .string ByteArray.empty] w1 rfl D1')
  clear A1' D1' G1'
  go_wp2_with fail
  clear cc ff
  have T1 := Lib.hid T1
  refine (c_num p c B bs _ _ _ C1).mono ?_
  rintro e w2 ⟨K2, j2, bad2, q2, rfl, J2, C2, T2⟩
  obtain ⟨n1, rfl⟩ := J2
  simp only [one, List.headD_cons]
  have A2' := K2.row A1.out hp0
  have D2' := K2.row D1.out hp1
  have G2' := G1.trans K2
  have cc := box_cell D2' 1 rfl
  have ff : w2.frozen? ⟨w.heap.size + 1, 1, none⟩ = false := frozen_of_row w2 _ 1 _ _ D2'
  have C2 := cu_set (g := w.heap.size + 1) (o := 1) (v := .int .i64 n1) C2 hg
  have G2 : Keeps (Off2 p c) w (w2.setCell ⟨w.heap.size + 1, 1, none⟩ (.int .i64 n1)) := keeps_set G2' (by omega)
  have A2 := Lib.hid (row_set (b := w.heap.size + 1) (o := 1) (v := .int .i64 n1) A2' (by omega))
  have D2 : Hid ((w2.setCell ⟨w.heap.size + 1, 1, none⟩ (.int .i64 n1)).heap[w.heap.size + 1]? = some (.cells #[.string s0, .int .i64 n1, .slice none 0 0, .int .i64 0, .int .i64 0, .string ByteArray.empty, .string ByteArray.empty, .string ByteArray.empty] 67 (0, 0))) := Lib.hid (setCells_mid [.int .i64 n1] [.int .i64 0] [.string s0] [.slice none 0 0, .int .i64 0, .int .i64 0, .string ByteArray.empty, .string ByteArray.empty, .string ByteArray.empty] w2 rfl D2')
  clear A2' D2' G2'
  go_wp2_with fail
  clear cc ff
  have T2 := Lib.hid T2
  refine (c_listText p c B bs _ _ _ C2).mono ?_
  rintro e w3 ⟨K3, j3, bad3, q3, rfl, J3, C3, T3⟩
  obtain ⟨a2, l2, c2, rfl⟩ := J3
  simp only [one, List.headD_cons]
  have A3' := K3.row A2.out hp0
  have D3' := K3.row D2.out hp1
  have G3' := G2.trans K3
  have cc := box_cell D3' 2 rfl
  have ff : w3.frozen? ⟨w.heap.size + 1, 2, none⟩ = false := frozen_of_row w3 _ 2 _ _ D3'
  have C3 := cu_set (g := w.heap.size + 1) (o := 2) (v := .slice a2 l2 c2) C3 hg
  have G3 : Keeps (Off2 p c) w (w3.setCell ⟨w.heap.size + 1, 2, none⟩ (.slice a2 l2 c2)) := keeps_set G3' (by omega)
  have A3 := Lib.hid (row_set (b := w.heap.size + 1) (o := 2) (v := .slice a2 l2 c2) A3' (by omega))
  have D3 : Hid ((w3.setCell ⟨w.heap.size + 1, 2, none⟩ (.slice a2 l2 c2)).heap[w.heap.size + 1]? = some (.cells #[.string s0, .int .i64 n1, .slice a2 l2 c2, .int .i64 0, .int .i64 0, .string ByteArray.empty, .string ByteArray.empty, .string ByteArray.empty] 67 (0, 0))) := Lib.hid (setCells_mid [.slice a2 l2 c2] [.slice none 0 0] [.string s0, .int .i64 n1] [.int .i64 0, .int .i64 0, .string ByteArray.empty, .string ByteArray.empty, .string ByteArray.empty] w3 rfl D3')
  clear A3' D3' G3'
  go_wp2_with fail
  clear cc ff
  have T3 := Lib.hid T3
  refine (c_whole p c B bs _ _ _ C3).mono ?_
  rintro e w4 ⟨K4, j4, bad4, q4, rfl, J4, C4, T4⟩
  obtain ⟨n3, rfl⟩ := J4
  simp only [one, List.headD_cons]
  have A4' := K4.row A3.out hp0
  have D4' := K4.row D3.out hp1
  have G4' := G3.trans K4
  have cc := box_cell D4' 3 rfl
  have ff : w4.frozen? ⟨w.heap.size + 1, 3, none⟩ = false := frozen_of_row w4 _ 3 _ _ D4'
  have C4 := cu_set (g := w.heap.size + 1) (o := 3) (v := .int .i64 n3) C4 hg
  have G4 : Keeps (Off2 p c) w (w4.setCell ⟨w.heap.size + 1, 3, none⟩ (.int .i64 n3)) := keeps_set G4' (by omega)
  have A4 := Lib.hid (row_set (b := w.heap.size + 1) (o := 3) (v := .int .i64 n3) A4' (by omega))
  have D4 : Hid ((w4.setCell ⟨w.heap.size + 1, 3, none⟩ (.int .i64 n3)).heap[w.heap.size + 1]? = some (.cells #[.string s0, .int .i64 n1, .slice a2 l2 c2, .int .i64 n3, .int .i64 0, .string ByteArray.empty, .string ByteArray.empty, .string ByteArray.empty] 67 (0, 0))) := Lib.hid (setCells_mid [.int .i64 n3] [.int .i64 0] [.string s0, .int .i64 n1, .slice a2 l2 c2] [.int .i64 0, .string ByteArray.empty, .string ByteArray.empty, .string ByteArray.empty] w4 rfl D4')
  clear A4' D4' G4'
  go_wp2_with fail
  clear cc ff
  have T4 := Lib.hid T4
  refine (c_whole p c B bs _ _ _ C4).mono ?_
  rintro e w5 ⟨K5, j5, bad5, q5, rfl, J5, C5, T5⟩
  obtain ⟨n4, rfl⟩ := J5
  simp only [one, List.headD_cons]
  have A5' := K5.row A4.out hp0
  have D5' := K5.row D4.out hp1
  have G5' := G4.trans K5
  have cc := box_cell D5' 4 rfl
  have ff : w5.frozen? ⟨w.heap.size + 1, 4, none⟩ = false := frozen_of_row w5 _ 4 _ _ D5'
  have C5 := cu_set (g := w.heap.size + 1) (o := 4) (v := .int .i64 n4) C5 hg
  have G5 : Keeps (Off2 p c) w (w5.setCell ⟨w.heap.size + 1, 4, none⟩ (.int .i64 n4)) := keeps_set G5' (by omega)
  have A5 := Lib.hid (row_set (b := w.heap.size + 1) (o := 4) (v := .int .i64 n4) A5' (by omega))
  have D5 : Hid ((w5.setCell ⟨w.heap.size + 1, 4, none⟩ (.int .i64 n4)).heap[w.heap.size + 1]? = some (.cells #[.string s0, .int .i64 n1, .slice a2 l2 c2, .int .i64 n3, .int .i64 n4, .string ByteArray.empty, .string ByteArray.empty, .string ByteArray.empty] 67 (0, 0))) := Lib.hid (setCells_mid [.int .i64 n4] [.int .i64 0] [.string s0, .int .i64 n1, .slice a2 l2 c2, .int .i64 n3] [.string ByteArray.empty, .string ByteArray.empty, .string ByteArray.empty] w5 rfl D5')
  clear A5' D5' G5'
  go_wp2_with fail
  clear cc ff
  have T5 := Lib.hid T5
  refine (c_text p c B bs _ _ _ C5).mono ?_
  rintro e w6 ⟨K6, j6, bad6, q6, rfl, J6, C6, T6⟩
  obtain ⟨s5, rfl⟩ := J6
  simp only [one, List.headD_cons]
  have A6' := K6.row A5.out hp0
  have D6' := K6.row D5.out hp1
  have G6' := G5.trans K6
  have cc := box_cell D6' 5 rfl
  have ff : w6.frozen? ⟨w.heap.size + 1, 5, none⟩ = false := frozen_of_row w6 _ 5 _ _ D6'
  have C6 := cu_set (g := w.heap.size + 1) (o := 5) (v := .string s5) C6 hg
  have G6 : Keeps (Off2 p c) w (w6.setCell ⟨w.heap.size + 1, 5, none⟩ (.string s5)) := keeps_set G6' (by omega)
  have A6 := Lib.hid (row_set (b := w.heap.size + 1) (o := 5) (v := .string s5) A6' (by omega))
  have D6 : Hid ((w6.setCell ⟨w.heap.size + 1, 5, none⟩ (.string s5)).heap[w.heap.size + 1]? = some (.cells #[.string s0, .int .i64 n1, .slice a2 l2 c2, .int .i64 n3, .int .i64 n4, .string s5, .string ByteArray.empty, .string ByteArray.empty] 67 (0, 0))) := Lib.hid (setCells_mid [.string s5] [.string ByteArray.empty] [.string s0, .int .i64 n1, .slice a2 l2 c2, .int .i64 n3, .int .i64 n4] [.string ByteArray.empty, .string ByteArray.empty] w6 rfl D6')
  clear A6' D6' G6'
  go_wp2_with fail
  clear cc ff
  have T6 := Lib.hid T6
  refine (c_text p c B bs _ _ _ C6).mono ?_
  rintro e w7 ⟨K7, j7, bad7, q7, rfl, J7, C7, T7⟩
  obtain ⟨s6, rfl⟩ := J7
  simp only [one, List.headD_cons]
  have A7' := K7.row A6.out hp0
  have D7' := K7.row D6.out hp1
  have G7' := G6.trans K7
  have cc := box_cell D7' 6 rfl
  have ff : w7.frozen? ⟨w.heap.size + 1, 6, none⟩ = false := frozen_of_row w7 _ 6 _ _ D7'
  have C7 := cu_set (g := w.heap.size + 1) (o := 6) (v := .string s6) C7 hg
  have G7 : Keeps (Off2 p c) w (w7.setCell ⟨w.heap.size + 1, 6, none⟩ (.string s6)) := keeps_set G7' (by omega)
  have A7 := Lib.hid (row_set (b := w.heap.size + 1) (o := 6) (v := .string s6) A7' (by omega))
  have D7 : Hid ((w7.setCell ⟨w.heap.size + 1, 6, none⟩ (.string s6)).heap[w.heap.size + 1]? = some (.cells #[.string s0, .int .i64 n1, .slice a2 l2 c2, .int .i64 n3, .int .i64 n4, .string s5, .string s6, .string ByteArray.empty] 67 (0, 0))) := Lib.hid (setCells_mid [.string s6] [.string ByteArray.empty] [.string s0, .int .i64 n1, .slice a2 l2 c2, .int .i64 n3, .int .i64 n4, .string s5] [.string ByteArray.empty] w7 rfl D7')
  clear A7' D7' G7'
  go_wp2_with fail
  clear cc ff
  have T7 := Lib.hid T7
  refine (c_text p c B bs _ _ _ C7).mono ?_
  rintro e w8 ⟨K8, j8, bad8, q8, rfl, J8, C8, T8⟩
  obtain ⟨s7, rfl⟩ := J8
  simp only [one, List.headD_cons]
  have A8' := K8.row A7.out hp0
  have D8' := K8.row D7.out hp1
  have G8' := G7.trans K8
  have cc := box_cell D8' 7 rfl
  have ff : w8.frozen? ⟨w.heap.size + 1, 7, none⟩ = false := frozen_of_row w8 _ 7 _ _ D8'
  have C8 := cu_set (g := w.heap.size + 1) (o := 7) (v := .string s7) C8 hg
  have G8 : Keeps (Off2 p c) w (w8.setCell ⟨w.heap.size + 1, 7, none⟩ (.string s7)) := keeps_set G8' (by omega)
  have A8 := Lib.hid (row_set (b := w.heap.size + 1) (o := 7) (v := .string s7) A8' (by omega))
  have D8 : Hid ((w8.setCell ⟨w.heap.size + 1, 7, none⟩ (.string s7)).heap[w.heap.size + 1]? = some (.cells #[.string s0, .int .i64 n1, .slice a2 l2 c2, .int .i64 n3, .int .i64 n4, .string s5, .string s6, .string s7] 67 (0, 0))) := Lib.hid (setCells_mid [.string s7] [.string ByteArray.empty] [.string s0, .int .i64 n1, .slice a2 l2 c2, .int .i64 n3, .int .i64 n4, .string s5, .string s6] [] w8 rfl D8')
  clear A8' D8' G8'
  have T8 := Lib.hid T8
  have HA := Lib.hid (setRow_heap _ w.heap.size _ #[.string s0, .int .i64 n1, .slice a2 l2 c2, .int .i64 n3, .int .i64 n4, .string s5, .string s6, .string s7] _ _ A8.out)
  have rng := Lib.hid (box_range (cs := [.string s0, .int .i64 n1, .slice a2 l2 c2, .int .i64 n3, .int .i64 n4, .string s5, .string s6, .string s7]) D8.out)
  have h1 := Lib.hid (all_oneCell_toArray (mkT_Rule (s0 := s0) (n1 := n1) (a2 := a2) (l2 := l2) (c2 := c2) (n3 := n3) (n4 := n4) (s5 := s5) (s6 := s6) (s7 := s7)).one)
  go_wp2_with (first | (refine wpList_load_mid rfl 67 _ rfl (w.heap.size + 1) 0 rfl _ _ rng.out Tryz.underlying67 rfl HI.out ?_) | (refine wpList_store_row rfl 67 _ _ rfl w.heap.size 67 _ #[.string s0, .int .i64 n1, .slice a2 l2 c2, .int .i64 n3, .int .i64 n4, .string s5, .string s6, .string s7] rfl rfl A8.out HI.out rfl h1.out ?_))
  refine bodyPost_ret (results_cell_row rfl _ _ w.heap.size _ _ (0, 0) _ rfl HA.out Tryz.underlying67 rfl HI.out) rfl ?_
  exact ⟨G8.setRow (Nat.le_refl _) _, _, _, _, rfl, mkT_Rule, C8.setOwn (own_lt h (Nat.le_refl _)) (fun k hk => setRow_other _ _ _ _ hk), (T1.out.two (T2.out.two (T3.out.two (T4.out.two (T5.out.two (T6.out.two (T7.out.two T8.out)))))))⟩

end Go.Proofs.YtbhpbiimfcdgaaaGreat
