/-
  The document's reader, by contract: rules, configurations, records (made by wip/gen_wire.py)
-/
import Derived.Test.YtbhpbiimfcdgaaaWireCb
namespace Go.Proofs.Ytbhpbiimfcdgaaa
open Go.RowKit
set_option linter.unusedVariables false

set_option maxRecDepth 100000 in
set_option maxHeartbeats 2000000 in
theorem c_rule (p c : Nat) (B : Nat) (bs : List UInt8) (i : Nat) (bad : Bool) (w : World) (h : Cu w p c B bs i bad) :
    Calls Try.prog 89 #[.pointer (some ⟨p, 0, none⟩)] w (CPost w p c B bs shRule i bad agg) := by
  have hg := own_lt h (Nat.le_succ w.heap.size)
  have hp0 : Off2 p c w.heap.size := by have := own_lt h (Nat.le_refl w.heap.size); exact ⟨this.2.1, this.2.2⟩
  have hp1 : Off2 p c (w.heap.size + 1) := ⟨hg.2.1, hg.2.2⟩
  have C0 := (h.alloc (.cells #[.string ByteArray.empty, .int .i64 0, .slice none 0 0, .int .i64 0, .int .i64 0, .string ByteArray.empty, .string ByteArray.empty, .string ByteArray.empty] 27)).alloc (.cells #[.string ByteArray.empty, .int .i64 0, .slice none 0 0, .int .i64 0, .int .i64 0, .string ByteArray.empty, .string ByteArray.empty, .string ByteArray.empty] 27)
  have G0 : Keeps (Off2 p c) w ((w.alloc (.cells #[.string ByteArray.empty, .int .i64 0, .slice none 0 0, .int .i64 0, .int .i64 0, .string ByteArray.empty, .string ByteArray.empty, .string ByteArray.empty] 27)).alloc (.cells #[.string ByteArray.empty, .int .i64 0, .slice none 0 0, .int .i64 0, .int .i64 0, .string ByteArray.empty, .string ByteArray.empty, .string ByteArray.empty] 27)) := (Keeps.refl.alloc _).alloc _
  have A0 := Lib.hid (heap_alloc2_old w (.cells #[.string ByteArray.empty, .int .i64 0, .slice none 0 0, .int .i64 0, .int .i64 0, .string ByteArray.empty, .string ByteArray.empty, .string ByteArray.empty] 27) (.cells #[.string ByteArray.empty, .int .i64 0, .slice none 0 0, .int .i64 0, .int .i64 0, .string ByteArray.empty, .string ByteArray.empty, .string ByteArray.empty] 27))
  have D0 := Lib.hid (heap_alloc2_new w (.cells #[.string ByteArray.empty, .int .i64 0, .slice none 0 0, .int .i64 0, .int .i64 0, .string ByteArray.empty, .string ByteArray.empty, .string ByteArray.empty] 27) (.cells #[.string ByteArray.empty, .int .i64 0, .slice none 0 0, .int .i64 0, .int .i64 0, .string ByteArray.empty, .string ByteArray.empty, .string ByteArray.empty] 27))
  have hi : (Try.prog.info? 27).map (·.size) = some 8 := by kernel_rfl
  have HI := Lib.hid hi; clear hi
  have h1z : (#[.string ByteArray.empty, .int .i64 0, .slice none 0 0, .int .i64 0, .int .i64 0, .string ByteArray.empty, .string ByteArray.empty, .string ByteArray.empty] : Array Value).all (·.oneCell') = true := by kernel_rfl
  have H1Z := Lib.hid h1z; clear h1z
  have HNZ : Hid ((w.alloc (.cells #[.string ByteArray.empty, .int .i64 0, .slice none 0 0, .int .i64 0, .int .i64 0, .string ByteArray.empty, .string ByteArray.empty, .string ByteArray.empty] 27)).heap.size = w.heap.size + 1) := Lib.hid (by simp)
  go_enter Try.func89, Try.ntmps89
  go_wp2_with (refine wpList_store_last (w.alloc (.cells #[.string ByteArray.empty, .int .i64 0, .slice none 0 0, .int .i64 0, .int .i64 0, .string ByteArray.empty, .string ByteArray.empty, .string ByteArray.empty] 27)) rfl 27 _ _ rfl 27 #[.string ByteArray.empty, .int .i64 0, .slice none 0 0, .int .i64 0, .int .i64 0, .string ByteArray.empty, .string ByteArray.empty, .string ByteArray.empty] #[.string ByteArray.empty, .int .i64 0, .slice none 0 0, .int .i64 0, .int .i64 0, .string ByteArray.empty, .string ByteArray.empty, .string ByteArray.empty] (w.heap.size + 1) HNZ.out rfl rfl HI.out rfl H1Z.out ?_)
  refine (c_text p c B bs _ _ _ C0).mono ?_
  rintro e w1 ⟨K1, j1, bad1, q1, rfl, J1, C1, T1⟩
  obtain ⟨s0, rfl⟩ := J1
  simp only [one, List.headD_cons]
  have A1' := K1.row A0.out hp0
  have D1' := K1.row D0.out hp1
  have G1' := G0.trans K1
  have cc := box_cell D1' 0 rfl
  have ff : w1.frozen? ⟨w.heap.size + 1, 0, none⟩ = false := frozen_of_row w1 _ 0 _ _ D1'
  have C1 := cu_set (g := w.heap.size + 1) (o := 0) (v := .string s0) C1 hg
  have G1 : Keeps (Off2 p c) w (w1.setCell ⟨w.heap.size + 1, 0, none⟩ (.string s0)) := keeps_set G1' (by omega)
  have A1 := Lib.hid (row_set (b := w.heap.size + 1) (o := 0) (v := .string s0) A1' (by omega))
  have D1 : Hid ((w1.setCell ⟨w.heap.size + 1, 0, none⟩ (.string s0)).heap[w.heap.size + 1]? = some (.cells #[.string s0, .int .i64 0, .slice none 0 0, .int .i64 0, .int .i64 0, .string ByteArray.empty, .string ByteArray.empty, .string ByteArray.empty] 27 (0, 0))) := Lib.hid (setCells_mid [.string s0] [.string ByteArray.empty] [] [.int .i64 0, .slice none 0 0, .int .i64 0, .int .i64 0, .string ByteArray.empty, .string ByteArray.empty, .string ByteArray.empty] w1 rfl D1')
  clear A1' D1' G1'
  go_wp2_with fail
  clear cc ff
  have T1 := Lib.hid T1
  refine (c_num p c B bs _ _ _ C1).mono ?_
  rintro e w2 ⟨K2, j2, bad2, q2, rfl, J2, C2, T2⟩
  obtain ⟨n1, rfl⟩ := J2
  simp only [one, List.headD_cons]
  have A2' := K2.row A1.out hp0
  have D2' := K2.row D1.out hp1
  have G2' := G1.trans K2
  have cc := box_cell D2' 1 rfl
  have ff : w2.frozen? ⟨w.heap.size + 1, 1, none⟩ = false := frozen_of_row w2 _ 1 _ _ D2'
  have C2 := cu_set (g := w.heap.size + 1) (o := 1) (v := .int .i64 n1) C2 hg
  have G2 : Keeps (Off2 p c) w (w2.setCell ⟨w.heap.size + 1, 1, none⟩ (.int .i64 n1)) := keeps_set G2' (by omega)
  have A2 := Lib.hid (row_set (b := w.heap.size + 1) (o := 1) (v := .int .i64 n1) A2' (by omega))
  have D2 : Hid ((w2.setCell ⟨w.heap.size + 1, 1, none⟩ (.int .i64 n1)).heap[w.heap.size + 1]? = some (.cells #[.string s0, .int .i64 n1, .slice none 0 0, .int .i64 0, .int .i64 0, .string ByteArray.empty, .string ByteArray.empty, .string ByteArray.empty] 27 (0, 0))) := Lib.hid (setCells_mid [.int .i64 n1] [.int .i64 0] [.string s0] [.slice none 0 0, .int .i64 0, .int .i64 0, .string ByteArray.empty, .string ByteArray.empty, .string ByteArray.empty] w2 rfl D2')
  clear A2' D2' G2'
  go_wp2_with fail
  clear cc ff
  have T2 := Lib.hid T2
  refine (c_listText p c B bs _ _ _ C2).mono ?_
  rintro e w3 ⟨K3, j3, bad3, q3, rfl, J3, C3, T3⟩
  obtain ⟨a2, l2, c2, rfl⟩ := J3
  simp only [one, List.headD_cons]
  have A3' := K3.row A2.out hp0
  have D3' := K3.row D2.out hp1
  have G3' := G2.trans K3
  have cc := box_cell D3' 2 rfl
  have ff : w3.frozen? ⟨w.heap.size + 1, 2, none⟩ = false := frozen_of_row w3 _ 2 _ _ D3'
  have C3 := cu_set (g := w.heap.size + 1) (o := 2) (v := .slice a2 l2 c2) C3 hg
  have G3 : Keeps (Off2 p c) w (w3.setCell ⟨w.heap.size + 1, 2, none⟩ (.slice a2 l2 c2)) := keeps_set G3' (by omega)
  have A3 := Lib.hid (row_set (b := w.heap.size + 1) (o := 2) (v := .slice a2 l2 c2) A3' (by omega))
  have D3 : Hid ((w3.setCell ⟨w.heap.size + 1, 2, none⟩ (.slice a2 l2 c2)).heap[w.heap.size + 1]? = some (.cells #[.string s0, .int .i64 n1, .slice a2 l2 c2, .int .i64 0, .int .i64 0, .string ByteArray.empty, .string ByteArray.empty, .string ByteArray.empty] 27 (0, 0))) := Lib.hid (setCells_mid [.slice a2 l2 c2] [.slice none 0 0] [.string s0, .int .i64 n1] [.int .i64 0, .int .i64 0, .string ByteArray.empty, .string ByteArray.empty, .string ByteArray.empty] w3 rfl D3')
  clear A3' D3' G3'
  go_wp2_with fail
  clear cc ff
  have T3 := Lib.hid T3
  refine (c_whole p c B bs _ _ _ C3).mono ?_
  rintro e w4 ⟨K4, j4, bad4, q4, rfl, J4, C4, T4⟩
  obtain ⟨n3, rfl⟩ := J4
  simp only [one, List.headD_cons]
  have A4' := K4.row A3.out hp0
  have D4' := K4.row D3.out hp1
  have G4' := G3.trans K4
  have cc := box_cell D4' 3 rfl
  have ff : w4.frozen? ⟨w.heap.size + 1, 3, none⟩ = false := frozen_of_row w4 _ 3 _ _ D4'
  have C4 := cu_set (g := w.heap.size + 1) (o := 3) (v := .int .i64 n3) C4 hg
  have G4 : Keeps (Off2 p c) w (w4.setCell ⟨w.heap.size + 1, 3, none⟩ (.int .i64 n3)) := keeps_set G4' (by omega)
  have A4 := Lib.hid (row_set (b := w.heap.size + 1) (o := 3) (v := .int .i64 n3) A4' (by omega))
  have D4 : Hid ((w4.setCell ⟨w.heap.size + 1, 3, none⟩ (.int .i64 n3)).heap[w.heap.size + 1]? = some (.cells #[.string s0, .int .i64 n1, .slice a2 l2 c2, .int .i64 n3, .int .i64 0, .string ByteArray.empty, .string ByteArray.empty, .string ByteArray.empty] 27 (0, 0))) := Lib.hid (setCells_mid [.int .i64 n3] [.int .i64 0] [.string s0, .int .i64 n1, .slice a2 l2 c2] [.int .i64 0, .string ByteArray.empty, .string ByteArray.empty, .string ByteArray.empty] w4 rfl D4')
  clear A4' D4' G4'
  go_wp2_with fail
  clear cc ff
  have T4 := Lib.hid T4
  refine (c_whole p c B bs _ _ _ C4).mono ?_
  rintro e w5 ⟨K5, j5, bad5, q5, rfl, J5, C5, T5⟩
  obtain ⟨n4, rfl⟩ := J5
  simp only [one, List.headD_cons]
  have A5' := K5.row A4.out hp0
  have D5' := K5.row D4.out hp1
  have G5' := G4.trans K5
  have cc := box_cell D5' 4 rfl
  have ff : w5.frozen? ⟨w.heap.size + 1, 4, none⟩ = false := frozen_of_row w5 _ 4 _ _ D5'
  have C5 := cu_set (g := w.heap.size + 1) (o := 4) (v := .int .i64 n4) C5 hg
  have G5 : Keeps (Off2 p c) w (w5.setCell ⟨w.heap.size + 1, 4, none⟩ (.int .i64 n4)) := keeps_set G5' (by omega)
  have A5 := Lib.hid (row_set (b := w.heap.size + 1) (o := 4) (v := .int .i64 n4) A5' (by omega))
  have D5 : Hid ((w5.setCell ⟨w.heap.size + 1, 4, none⟩ (.int .i64 n4)).heap[w.heap.size + 1]? = some (.cells #[.string s0, .int .i64 n1, .slice a2 l2 c2, .int .i64 n3, .int .i64 n4, .string ByteArray.empty, .string ByteArray.empty, .string ByteArray.empty] 27 (0, 0))) := Lib.hid (setCells_mid [.int .i64 n4] [.int .i64 0] [.string s0, .int .i64 n1, .slice a2 l2 c2, .int .i64 n3] [.string ByteArray.empty, .string ByteArray.empty, .string ByteArray.empty] w5 rfl D5')
  clear A5' D5' G5'
  go_wp2_with fail
  clear cc ff
  have T5 := Lib.hid T5
  refine (c_text p c B bs _ _ _ C5).mono ?_
  rintro e w6 ⟨K6, j6, bad6, q6, rfl, J6, C6, T6⟩
  obtain ⟨s5, rfl⟩ := J6
  simp only [one, List.headD_cons]
  have A6' := K6.row A5.out hp0
  have D6' := K6.row D5.out hp1
  have G6' := G5.trans K6
  have cc := box_cell D6' 5 rfl
  have ff : w6.frozen? ⟨w.heap.size + 1, 5, none⟩ = false := frozen_of_row w6 _ 5 _ _ D6'
  have C6 := cu_set (g := w.heap.size + 1) (o := 5) (v := .string s5) C6 hg
  have G6 : Keeps (Off2 p c) w (w6.setCell ⟨w.heap.size + 1, 5, none⟩ (.string s5)) := keeps_set G6' (by omega)
  have A6 := Lib.hid (row_set (b := w.heap.size + 1) (o := 5) (v := .string s5) A6' (by omega))
  have D6 : Hid ((w6.setCell ⟨w.heap.size + 1, 5, none⟩ (.string s5)).heap[w.heap.size + 1]? = some (.cells #[.string s0, .int .i64 n1, .slice a2 l2 c2, .int .i64 n3, .int .i64 n4, .string s5, .string ByteArray.empty, .string ByteArray.empty] 27 (0, 0))) := Lib.hid (setCells_mid [.string s5] [.string ByteArray.empty] [.string s0, .int .i64 n1, .slice a2 l2 c2, .int .i64 n3, .int .i64 n4] [.string ByteArray.empty, .string ByteArray.empty] w6 rfl D6')
  clear A6' D6' G6'
  go_wp2_with fail
  clear cc ff
  have T6 := Lib.hid T6
  refine (c_text p c B bs _ _ _ C6).mono ?_
  rintro e w7 ⟨K7, j7, bad7, q7, rfl, J7, C7, T7⟩
  obtain ⟨s6, rfl⟩ := J7
  simp only [one, List.headD_cons]
  have A7' := K7.row A6.out hp0
  have D7' := K7.row D6.out hp1
  have G7' := G6.trans K7
  have cc := box_cell D7' 6 rfl
  have ff : w7.frozen? ⟨w.heap.size + 1, 6, none⟩ = false := frozen_of_row w7 _ 6 _ _ D7'
  have C7 := cu_set (g := w.heap.size + 1) (o := 6) (v := .string s6) C7 hg
  have G7 : Keeps (Off2 p c) w (w7.setCell ⟨w.heap.size + 1, 6, none⟩ (.string s6)) := keeps_set G7' (by omega)
  have A7 := Lib.hid (row_set (b := w.heap.size + 1) (o := 6) (v := .string s6) A7' (by omega))
  have D7 : Hid ((w7.setCell ⟨w.heap.size + 1, 6, none⟩ (.string s6)).heap[w.heap.size + 1]? = some (.cells #[.string s0, .int .i64 n1, .slice a2 l2 c2, .int .i64 n3, .int .i64 n4, .string s5, .string s6, .string ByteArray.empty] 27 (0, 0))) := Lib.hid (setCells_mid [.string s6] [.string ByteArray.empty] [.string s0, .int .i64 n1, .slice a2 l2 c2, .int .i64 n3, .int .i64 n4, .string s5] [.string ByteArray.empty] w7 rfl D7')
  clear A7' D7' G7'
  go_wp2_with fail
  clear cc ff
  have T7 := Lib.hid T7
  refine (c_text p c B bs _ _ _ C7).mono ?_
  rintro e w8 ⟨K8, j8, bad8, q8, rfl, J8, C8, T8⟩
  obtain ⟨s7, rfl⟩ := J8
  simp only [one, List.headD_cons]
  have A8' := K8.row A7.out hp0
  have D8' := K8.row D7.out hp1
  have G8' := G7.trans K8
  have cc := box_cell D8' 7 rfl
  have ff : w8.frozen? ⟨w.heap.size + 1, 7, none⟩ = false := frozen_of_row w8 _ 7 _ _ D8'
  have C8 := cu_set (g := w.heap.size + 1) (o := 7) (v := .string s7) C8 hg
  have G8 : Keeps (Off2 p c) w (w8.setCell ⟨w.heap.size + 1, 7, none⟩ (.string s7)) := keeps_set G8' (by omega)
  have A8 := Lib.hid (row_set (b := w.heap.size + 1) (o := 7) (v := .string s7) A8' (by omega))
  have D8 : Hid ((w8.setCell ⟨w.heap.size + 1, 7, none⟩ (.string s7)).heap[w.heap.size + 1]? = some (.cells #[.string s0, .int .i64 n1, .slice a2 l2 c2, .int .i64 n3, .int .i64 n4, .string s5, .string s6, .string s7] 27 (0, 0))) := Lib.hid (setCells_mid [.string s7] [.string ByteArray.empty] [.string s0, .int .i64 n1, .slice a2 l2 c2, .int .i64 n3, .int .i64 n4, .string s5, .string s6] [] w8 rfl D8')
  clear A8' D8' G8'
  have T8 := Lib.hid T8
  have HA := Lib.hid (setRow_heap _ w.heap.size _ #[.string s0, .int .i64 n1, .slice a2 l2 c2, .int .i64 n3, .int .i64 n4, .string s5, .string s6, .string s7] _ _ A8.out)
  have rng := Lib.hid (box_range (cs := [.string s0, .int .i64 n1, .slice a2 l2 c2, .int .i64 n3, .int .i64 n4, .string s5, .string s6, .string s7]) D8.out)
  have h1 := Lib.hid (all_oneCell_toArray (mkT_Rule (s0 := s0) (n1 := n1) (a2 := a2) (l2 := l2) (c2 := c2) (n3 := n3) (n4 := n4) (s5 := s5) (s6 := s6) (s7 := s7)).one)
  go_wp2_with (first | (refine wpList_load_mid rfl 27 _ rfl (w.heap.size + 1) 0 rfl _ _ rng.out Try.underlying27 rfl HI.out ?_) | (refine wpList_store_row rfl 27 _ _ rfl w.heap.size 27 _ #[.string s0, .int .i64 n1, .slice a2 l2 c2, .int .i64 n3, .int .i64 n4, .string s5, .string s6, .string s7] rfl rfl A8.out HI.out rfl h1.out ?_))
  refine bodyPost_ret (results_cell_row rfl _ _ w.heap.size _ _ (0, 0) _ rfl HA.out Try.underlying27 rfl HI.out) rfl ?_
  exact ⟨G8.setRow (Nat.le_refl _) _, _, _, _, rfl, mkT_Rule, C8.setOwn (own_lt h (Nat.le_refl _)) (fun k hk => setRow_other _ _ _ _ hk), (T1.out.two (T2.out.two (T3.out.two (T4.out.two (T5.out.two (T6.out.two (T7.out.two T8.out)))))))⟩

set_option maxRecDepth 100000 in
set_option maxHeartbeats 2000000 in
theorem c_config (p c : Nat) (B : Nat) (bs : List UInt8) (i : Nat) (bad : Bool) (w : World) (h : Cu w p c B bs i bad) :
    Calls Try.prog 112 #[.pointer (some ⟨p, 0, none⟩)] w (CPost w p c B bs shConfig i bad agg) := by
  have hg := own_lt h (Nat.le_succ w.heap.size)
  have hp0 : Off2 p c w.heap.size := by have := own_lt h (Nat.le_refl w.heap.size); exact ⟨this.2.1, this.2.2⟩
  have hp1 : Off2 p c (w.heap.size + 1) := ⟨hg.2.1, hg.2.2⟩
  have C0 := (h.alloc (.cells #[.slice none 0 0, .slice none 0 0] 59)).alloc (.cells #[.slice none 0 0, .slice none 0 0] 59)
  have G0 : Keeps (Off2 p c) w ((w.alloc (.cells #[.slice none 0 0, .slice none 0 0] 59)).alloc (.cells #[.slice none 0 0, .slice none 0 0] 59)) := (Keeps.refl.alloc _).alloc _
  have A0 := Lib.hid (heap_alloc2_old w (.cells #[.slice none 0 0, .slice none 0 0] 59) (.cells #[.slice none 0 0, .slice none 0 0] 59))
  have D0 := Lib.hid (heap_alloc2_new w (.cells #[.slice none 0 0, .slice none 0 0] 59) (.cells #[.slice none 0 0, .slice none 0 0] 59))
  have hi : (Try.prog.info? 59).map (·.size) = some 2 := by kernel_rfl
  have HI := Lib.hid hi; clear hi
  have h1z : (#[.slice none 0 0, .slice none 0 0] : Array Value).all (·.oneCell') = true := by kernel_rfl
  have H1Z := Lib.hid h1z; clear h1z
  have HNZ : Hid ((w.alloc (.cells #[.slice none 0 0, .slice none 0 0] 59)).heap.size = w.heap.size + 1) := Lib.hid (by simp)
  go_enter Try.func112, Try.ntmps112
  go_wp2_with (refine wpList_store_last (w.alloc (.cells #[.slice none 0 0, .slice none 0 0] 59)) rfl 59 _ _ rfl 59 #[.slice none 0 0, .slice none 0 0] #[.slice none 0 0, .slice none 0 0] (w.heap.size + 1) HNZ.out rfl rfl HI.out rfl H1Z.out ?_)
  refine (c_listNum p c B bs _ _ _ C0).mono ?_
  rintro e w1 ⟨K1, j1, bad1, q1, rfl, J1, C1, T1⟩
  obtain ⟨a0, l0, c0, rfl⟩ := J1
  simp only [one, List.headD_cons]
  have A1' := K1.row A0.out hp0
  have D1' := K1.row D0.out hp1
  have G1' := G0.trans K1
  have cc := box_cell D1' 0 rfl
  have ff : w1.frozen? ⟨w.heap.size + 1, 0, none⟩ = false := frozen_of_row w1 _ 0 _ _ D1'
  have C1 := cu_set (g := w.heap.size + 1) (o := 0) (v := .slice a0 l0 c0) C1 hg
  have G1 : Keeps (Off2 p c) w (w1.setCell ⟨w.heap.size + 1, 0, none⟩ (.slice a0 l0 c0)) := keeps_set G1' (by omega)
  have A1 := Lib.hid (row_set (b := w.heap.size + 1) (o := 0) (v := .slice a0 l0 c0) A1' (by omega))
  have D1 : Hid ((w1.setCell ⟨w.heap.size + 1, 0, none⟩ (.slice a0 l0 c0)).heap[w.heap.size + 1]? = some (.cells #[.slice a0 l0 c0, .slice none 0 0] 59 (0, 0))) := Lib.hid (setCells_mid [.slice a0 l0 c0] [.slice none 0 0] [] [.slice none 0 0] w1 rfl D1')
  clear A1' D1' G1'
  go_wp2_with fail
  clear cc ff
  have T1 := Lib.hid T1
  refine (c_listNum p c B bs _ _ _ C1).mono ?_
  rintro e w2 ⟨K2, j2, bad2, q2, rfl, J2, C2, T2⟩
  obtain ⟨a1, l1, c1, rfl⟩ := J2
  simp only [one, List.headD_cons]
  have A2' := K2.row A1.out hp0
  have D2' := K2.row D1.out hp1
  have G2' := G1.trans K2
  have cc := box_cell D2' 1 rfl
  have ff : w2.frozen? ⟨w.heap.size + 1, 1, none⟩ = false := frozen_of_row w2 _ 1 _ _ D2'
  have C2 := cu_set (g := w.heap.size + 1) (o := 1) (v := .slice a1 l1 c1) C2 hg
  have G2 : Keeps (Off2 p c) w (w2.setCell ⟨w.heap.size + 1, 1, none⟩ (.slice a1 l1 c1)) := keeps_set G2' (by omega)
  have A2 := Lib.hid (row_set (b := w.heap.size + 1) (o := 1) (v := .slice a1 l1 c1) A2' (by omega))
  have D2 : Hid ((w2.setCell ⟨w.heap.size + 1, 1, none⟩ (.slice a1 l1 c1)).heap[w.heap.size + 1]? = some (.cells #[.slice a0 l0 c0, .slice a1 l1 c1] 59 (0, 0))) := Lib.hid (setCells_mid [.slice a1 l1 c1] [.slice none 0 0] [.slice a0 l0 c0] [] w2 rfl D2')
  clear A2' D2' G2'
  have T2 := Lib.hid T2
  have HA := Lib.hid (setRow_heap _ w.heap.size _ #[.slice a0 l0 c0, .slice a1 l1 c1] _ _ A2.out)
  have rng := Lib.hid (box_range (cs := [.slice a0 l0 c0, .slice a1 l1 c1]) D2.out)
  have h1 := Lib.hid (all_oneCell_toArray (mkT_Config (a0 := a0) (l0 := l0) (c0 := c0) (a1 := a1) (l1 := l1) (c1 := c1)).one)
  go_wp2_with (first | (refine wpList_load_mid rfl 59 _ rfl (w.heap.size + 1) 0 rfl _ _ rng.out Try.underlying59 rfl HI.out ?_) | (refine wpList_store_row rfl 59 _ _ rfl w.heap.size 59 _ #[.slice a0 l0 c0, .slice a1 l1 c1] rfl rfl A2.out HI.out rfl h1.out ?_))
  refine bodyPost_ret (results_cell_row rfl _ _ w.heap.size _ _ (0, 0) _ rfl HA.out Try.underlying59 rfl HI.out) rfl ?_
  exact ⟨G2.setRow (Nat.le_refl _) _, _, _, _, rfl, mkT_Config, C2.setOwn (own_lt h (Nat.le_refl _)) (fun k hk => setRow_other _ _ _ _ hk), (T1.out.two T2.out)⟩

set_option maxRecDepth 100000 in
set_option maxHeartbeats 2000000 in
theorem c_record (p c : Nat) (B : Nat) (bs : List UInt8) (i : Nat) (bad : Bool) (w : World) (h : Cu w p c B bs i bad) :
    Calls Try.prog 51 #[.pointer (some ⟨p, 0, none⟩)] w (CPost w p c B bs shRecord i bad agg) := by
  have hg := own_lt h (Nat.le_succ w.heap.size)
  have hp0 : Off2 p c w.heap.size := by have := own_lt h (Nat.le_refl w.heap.size); exact ⟨this.2.1, this.2.2⟩
  have hp1 : Off2 p c (w.heap.size + 1) := ⟨hg.2.1, hg.2.2⟩
  have C0 := (h.alloc (.cells #[.int .i64 0, .int .i64 0, .int .i64 0, .int .i64 0, .int .i64 0, .int .i64 0, .slice none 0 0, .slice none 0 0, .string ByteArray.empty, .int .i64 0, .int .i64 0, .int .i64 0, .slice none 0 0, .slice none 0 0, .string ByteArray.empty] 65)).alloc (.cells #[.int .i64 0, .int .i64 0, .int .i64 0, .int .i64 0, .int .i64 0, .int .i64 0, .slice none 0 0, .slice none 0 0, .string ByteArray.empty, .int .i64 0, .int .i64 0, .int .i64 0, .slice none 0 0, .slice none 0 0, .string ByteArray.empty] 65)
  have G0 : Keeps (Off2 p c) w ((w.alloc (.cells #[.int .i64 0, .int .i64 0, .int .i64 0, .int .i64 0, .int .i64 0, .int .i64 0, .slice none 0 0, .slice none 0 0, .string ByteArray.empty, .int .i64 0, .int .i64 0, .int .i64 0, .slice none 0 0, .slice none 0 0, .string ByteArray.empty] 65)).alloc (.cells #[.int .i64 0, .int .i64 0, .int .i64 0, .int .i64 0, .int .i64 0, .int .i64 0, .slice none 0 0, .slice none 0 0, .string ByteArray.empty, .int .i64 0, .int .i64 0, .int .i64 0, .slice none 0 0, .slice none 0 0, .string ByteArray.empty] 65)) := (Keeps.refl.alloc _).alloc _
  have A0 := Lib.hid (heap_alloc2_old w (.cells #[.int .i64 0, .int .i64 0, .int .i64 0, .int .i64 0, .int .i64 0, .int .i64 0, .slice none 0 0, .slice none 0 0, .string ByteArray.empty, .int .i64 0, .int .i64 0, .int .i64 0, .slice none 0 0, .slice none 0 0, .string ByteArray.empty] 65) (.cells #[.int .i64 0, .int .i64 0, .int .i64 0, .int .i64 0, .int .i64 0, .int .i64 0, .slice none 0 0, .slice none 0 0, .string ByteArray.empty, .int .i64 0, .int .i64 0, .int .i64 0, .slice none 0 0, .slice none 0 0, .string ByteArray.empty] 65))
  have D0 := Lib.hid (heap_alloc2_new w (.cells #[.int .i64 0, .int .i64 0, .int .i64 0, .int .i64 0, .int .i64 0, .int .i64 0, .slice none 0 0, .slice none 0 0, .string ByteArray.empty, .int .i64 0, .int .i64 0, .int .i64 0, .slice none 0 0, .slice none 0 0, .string ByteArray.empty] 65) (.cells #[.int .i64 0, .int .i64 0, .int .i64 0, .int .i64 0, .int .i64 0, .int .i64 0, .slice none 0 0, .slice none 0 0, .string ByteArray.empty, .int .i64 0, .int .i64 0, .int .i64 0, .slice none 0 0, .slice none 0 0, .string ByteArray.empty] 65))
  have hi : (Try.prog.info? 65).map (·.size) = some 15 := by kernel_rfl
  have HI := Lib.hid hi; clear hi
  have h1z : (#[.int .i64 0, .int .i64 0, .int .i64 0, .int .i64 0, .int .i64 0, .int .i64 0, .slice none 0 0, .slice none 0 0, .string ByteArray.empty, .int .i64 0, .int .i64 0, .int .i64 0, .slice none 0 0, .slice none 0 0, .string ByteArray.empty] : Array Value).all (·.oneCell') = true := by kernel_rfl
  have H1Z := Lib.hid h1z; clear h1z
  have HNZ : Hid ((w.alloc (.cells #[.int .i64 0, .int .i64 0, .int .i64 0, .int .i64 0, .int .i64 0, .int .i64 0, .slice none 0 0, .slice none 0 0, .string ByteArray.empty, .int .i64 0, .int .i64 0, .int .i64 0, .slice none 0 0, .slice none 0 0, .string ByteArray.empty] 65)).heap.size = w.heap.size + 1) := Lib.hid (by simp)
  go_enter Try.func51, Try.ntmps51
  go_wp2_with (refine wpList_store_last (w.alloc (.cells #[.int .i64 0, .int .i64 0, .int .i64 0, .int .i64 0, .int .i64 0, .int .i64 0, .slice none 0 0, .slice none 0 0, .string ByteArray.empty, .int .i64 0, .int .i64 0, .int .i64 0, .slice none 0 0, .slice none 0 0, .string ByteArray.empty] 65)) rfl 65 _ _ rfl 65 #[.int .i64 0, .int .i64 0, .int .i64 0, .int .i64 0, .int .i64 0, .int .i64 0, .slice none 0 0, .slice none 0 0, .string ByteArray.empty, .int .i64 0, .int .i64 0, .int .i64 0, .slice none 0 0, .slice none 0 0, .string ByteArray.empty] #[.int .i64 0, .int .i64 0, .int .i64 0, .int .i64 0, .int .i64 0, .int .i64 0, .slice none 0 0, .slice none 0 0, .string ByteArray.empty, .int .i64 0, .int .i64 0, .int .i64 0, .slice none 0 0, .slice none 0 0, .string ByteArray.empty] (w.heap.size + 1) HNZ.out rfl rfl HI.out rfl H1Z.out ?_)
  refine (c_num p c B bs _ _ _ C0).mono ?_
  rintro e w1 ⟨K1, j1, bad1, q1, rfl, J1, C1, T1⟩
  obtain ⟨n0, rfl⟩ := J1
  simp only [one, List.headD_cons]
  have A1' := K1.row A0.out hp0
  have D1' := K1.row D0.out hp1
  have G1' := G0.trans K1
  have cc := box_cell D1' 0 rfl
  have ff : w1.frozen? ⟨w.heap.size + 1, 0, none⟩ = false := frozen_of_row w1 _ 0 _ _ D1'
  have C1 := cu_set (g := w.heap.size + 1) (o := 0) (v := .int .i64 n0) C1 hg
  have G1 : Keeps (Off2 p c) w (w1.setCell ⟨w.heap.size + 1, 0, none⟩ (.int .i64 n0)) := keeps_set G1' (by omega)
  have A1 := Lib.hid (row_set (b := w.heap.size + 1) (o := 0) (v := .int .i64 n0) A1' (by omega))
  have D1 : Hid ((w1.setCell ⟨w.heap.size + 1, 0, none⟩ (.int .i64 n0)).heap[w.heap.size + 1]? = some (.cells #[.int .i64 n0, .int .i64 0, .int .i64 0, .int .i64 0, .int .i64 0, .int .i64 0, .slice none 0 0, .slice none 0 0, .string ByteArray.empty, .int .i64 0, .int .i64 0, .int .i64 0, .slice none 0 0, .slice none 0 0, .string ByteArray.empty] 65 (0, 0))) := Lib.hid (setCells_mid [.int .i64 n0] [.int .i64 0] [] [.int .i64 0, .int .i64 0, .int .i64 0, .int .i64 0, .int .i64 0, .slice none 0 0, .slice none 0 0, .string ByteArray.empty, .int .i64 0, .int .i64 0, .int .i64 0, .slice none 0 0, .slice none 0 0, .string ByteArray.empty] w1 rfl D1')
  clear A1' D1' G1'
  go_wp2_with fail
  clear cc ff
  have T1 := Lib.hid T1
  refine (c_num p c B bs _ _ _ C1).mono ?_
  rintro e w2 ⟨K2, j2, bad2, q2, rfl, J2, C2, T2⟩
  obtain ⟨n1, rfl⟩ := J2
  simp only [one, List.headD_cons]
  have A2' := K2.row A1.out hp0
  have D2' := K2.row D1.out hp1
  have G2' := G1.trans K2
  have cc := box_cell D2' 1 rfl
  have ff : w2.frozen? ⟨w.heap.size + 1, 1, none⟩ = false := frozen_of_row w2 _ 1 _ _ D2'
  have C2 := cu_set (g := w.heap.size + 1) (o := 1) (v := .int .i64 n1) C2 hg
  have G2 : Keeps (Off2 p c) w (w2.setCell ⟨w.heap.size + 1, 1, none⟩ (.int .i64 n1)) := keeps_set G2' (by omega)
  have A2 := Lib.hid (row_set (b := w.heap.size + 1) (o := 1) (v := .int .i64 n1) A2' (by omega))
  have D2 : Hid ((w2.setCell ⟨w.heap.size + 1, 1, none⟩ (.int .i64 n1)).heap[w.heap.size + 1]? = some (.cells #[.int .i64 n0, .int .i64 n1, .int .i64 0, .int .i64 0, .int .i64 0, .int .i64 0, .slice none 0 0, .slice none 0 0, .string ByteArray.empty, .int .i64 0, .int .i64 0, .int .i64 0, .slice none 0 0, .slice none 0 0, .string ByteArray.empty] 65 (0, 0))) := Lib.hid (setCells_mid [.int .i64 n1] [.int .i64 0] [.int .i64 n0] [.int .i64 0, .int .i64 0, .int .i64 0, .int .i64 0, .slice none 0 0, .slice none 0 0, .string ByteArray.empty, .int .i64 0, .int .i64 0, .int .i64 0, .slice none 0 0, .slice none 0 0, .string ByteArray.empty] w2 rfl D2')
  clear A2' D2' G2'
  go_wp2_with fail
  clear cc ff
  have T2 := Lib.hid T2
  refine (c_num p c B bs _ _ _ C2).mono ?_
  rintro e w3 ⟨K3, j3, bad3, q3, rfl, J3, C3, T3⟩
  obtain ⟨n2, rfl⟩ := J3
  simp only [one, List.headD_cons]
  have A3' := K3.row A2.out hp0
  have D3' := K3.row D2.out hp1
  have G3' := G2.trans K3
  have cc := box_cell D3' 2 rfl
  have ff : w3.frozen? ⟨w.heap.size + 1, 2, none⟩ = false := frozen_of_row w3 _ 2 _ _ D3'
  have C3 := cu_set (g := w.heap.size + 1) (o := 2) (v := .int .i64 n2) C3 hg
  have G3 : Keeps (Off2 p c) w (w3.setCell ⟨w.heap.size + 1, 2, none⟩ (.int .i64 n2)) := keeps_set G3' (by omega)
  have A3 := Lib.hid (row_set (b := w.heap.size + 1) (o := 2) (v := .int .i64 n2) A3' (by omega))
  have D3 : Hid ((w3.setCell ⟨w.heap.size + 1, 2, none⟩ (.int .i64 n2)).heap[w.heap.size + 1]? = some (.cells #[.int .i64 n0, .int .i64 n1, .int .i64 n2, .int .i64 0, .int .i64 0, .int .i64 0, .slice none 0 0, .slice none 0 0, .string ByteArray.empty, .int .i64 0, .int .i64 0, .int .i64 0, .slice none 0 0, .slice none 0 0, .string ByteArray.empty] 65 (0, 0))) := Lib.hid (setCells_mid [.int .i64 n2] [.int .i64 0] [.int .i64 n0, .int .i64 n1] [.int .i64 0, .int .i64 0, .int .i64 0, .slice none 0 0, .slice none 0 0, .string ByteArray.empty, .int .i64 0, .int .i64 0, .int .i64 0, .slice none 0 0, .slice none 0 0, .string ByteArray.empty] w3 rfl D3')
  clear A3' D3' G3'
  go_wp2_with fail
  clear cc ff
  have T3 := Lib.hid T3
  refine (c_num p c B bs _ _ _ C3).mono ?_
  rintro e w4 ⟨K4, j4, bad4, q4, rfl, J4, C4, T4⟩
  obtain ⟨n3_0, rfl⟩ := J4
  simp only [one, List.headD_cons]
  have A4' := K4.row A3.out hp0
  have D4' := K4.row D3.out hp1
  have G4' := G3.trans K4
  have cc := box_cell D4' 3 rfl
  have ff : w4.frozen? ⟨w.heap.size + 1, 3, none⟩ = false := frozen_of_row w4 _ 3 _ _ D4'
  have C4 := cu_set (g := w.heap.size + 1) (o := 3) (v := .int .i64 n3_0) C4 hg
  have G4 : Keeps (Off2 p c) w (w4.setCell ⟨w.heap.size + 1, 3, none⟩ (.int .i64 n3_0)) := keeps_set G4' (by omega)
  have A4 := Lib.hid (row_set (b := w.heap.size + 1) (o := 3) (v := .int .i64 n3_0) A4' (by omega))
  have D4 : Hid ((w4.setCell ⟨w.heap.size + 1, 3, none⟩ (.int .i64 n3_0)).heap[w.heap.size + 1]? = some (.cells #[.int .i64 n0, .int .i64 n1, .int .i64 n2, .int .i64 n3_0, .int .i64 0, .int .i64 0, .slice none 0 0, .slice none 0 0, .string ByteArray.empty, .int .i64 0, .int .i64 0, .int .i64 0, .slice none 0 0, .slice none 0 0, .string ByteArray.empty] 65 (0, 0))) := Lib.hid (setCells_mid [.int .i64 n3_0] [.int .i64 0] [.int .i64 n0, .int .i64 n1, .int .i64 n2] [.int .i64 0, .int .i64 0, .slice none 0 0, .slice none 0 0, .string ByteArray.empty, .int .i64 0, .int .i64 0, .int .i64 0, .slice none 0 0, .slice none 0 0, .string ByteArray.empty] w4 rfl D4')
  clear A4' D4' G4'
  go_wp2_with fail
  clear cc ff
  have T4 := Lib.hid T4
  refine (c_num p c B bs _ _ _ C4).mono ?_
  rintro e w5 ⟨K5, j5, bad5, q5, rfl, J5, C5, T5⟩
  obtain ⟨n3_1, rfl⟩ := J5
  simp only [one, List.headD_cons]
  have A5' := K5.row A4.out hp0
  have D5' := K5.row D4.out hp1
  have G5' := G4.trans K5
  have cc := box_cell D5' 4 rfl
  have ff : w5.frozen? ⟨w.heap.size + 1, 4, none⟩ = false := frozen_of_row w5 _ 4 _ _ D5'
  have C5 := cu_set (g := w.heap.size + 1) (o := 4) (v := .int .i64 n3_1) C5 hg
  have G5 : Keeps (Off2 p c) w (w5.setCell ⟨w.heap.size + 1, 4, none⟩ (.int .i64 n3_1)) := keeps_set G5' (by omega)
  have A5 := Lib.hid (row_set (b := w.heap.size + 1) (o := 4) (v := .int .i64 n3_1) A5' (by omega))
  have D5 : Hid ((w5.setCell ⟨w.heap.size + 1, 4, none⟩ (.int .i64 n3_1)).heap[w.heap.size + 1]? = some (.cells #[.int .i64 n0, .int .i64 n1, .int .i64 n2, .int .i64 n3_0, .int .i64 n3_1, .int .i64 0, .slice none 0 0, .slice none 0 0, .string ByteArray.empty, .int .i64 0, .int .i64 0, .int .i64 0, .slice none 0 0, .slice none 0 0, .string ByteArray.empty] 65 (0, 0))) := Lib.hid (setCells_mid [.int .i64 n3_1] [.int .i64 0] [.int .i64 n0, .int .i64 n1, .int .i64 n2, .int .i64 n3_0] [.int .i64 0, .slice none 0 0, .slice none 0 0, .string ByteArray.empty, .int .i64 0, .int .i64 0, .int .i64 0, .slice none 0 0, .slice none 0 0, .string ByteArray.empty] w5 rfl D5')
  clear A5' D5' G5'
  go_wp2_with fail
  clear cc ff
  have T5 := Lib.hid T5
  refine (c_num p c B bs _ _ _ C5).mono ?_
  rintro e w6 ⟨K6, j6, bad6, q6, rfl, J6, C6, T6⟩
  obtain ⟨n3_2, rfl⟩ := J6
  simp only [one, List.headD_cons]
  have A6' := K6.row A5.out hp0
  have D6' := K6.row D5.out hp1
  have G6' := G5.trans K6
  have cc := box_cell D6' 5 rfl
  have ff : w6.frozen? ⟨w.heap.size + 1, 5, none⟩ = false := frozen_of_row w6 _ 5 _ _ D6'
  have C6 := cu_set (g := w.heap.size + 1) (o := 5) (v := .int .i64 n3_2) C6 hg
  have G6 : Keeps (Off2 p c) w (w6.setCell ⟨w.heap.size + 1, 5, none⟩ (.int .i64 n3_2)) := keeps_set G6' (by omega)
  have A6 := Lib.hid (row_set (b := w.heap.size + 1) (o := 5) (v := .int .i64 n3_2) A6' (by omega))
  have D6 : Hid ((w6.setCell ⟨w.heap.size + 1, 5, none⟩ (.int .i64 n3_2)).heap[w.heap.size + 1]? = some (.cells #[.int .i64 n0, .int .i64 n1, .int .i64 n2, .int .i64 n3_0, .int .i64 n3_1, .int .i64 n3_2, .slice none 0 0, .slice none 0 0, .string ByteArray.empty, .int .i64 0, .int .i64 0, .int .i64 0, .slice none 0 0, .slice none 0 0, .string ByteArray.empty] 65 (0, 0))) := Lib.hid (setCells_mid [.int .i64 n3_2] [.int .i64 0] [.int .i64 n0, .int .i64 n1, .int .i64 n2, .int .i64 n3_0, .int .i64 n3_1] [.slice none 0 0, .slice none 0 0, .string ByteArray.empty, .int .i64 0, .int .i64 0, .int .i64 0, .slice none 0 0, .slice none 0 0, .string ByteArray.empty] w6 rfl D6')
  clear A6' D6' G6'
  go_wp2_with fail
  clear cc ff
  have T6 := Lib.hid T6
  refine (c_config p c B bs _ _ _ C6).mono ?_
  rintro e w7 ⟨K7, j7, bad7, q7, rfl, J7, C7, T7⟩
  obtain ⟨a3_3_0, l3_3_0, c3_3_0, a3_3_1, l3_3_1, c3_3_1, rfl⟩ := typed_Config J7
  simp only [agg]
  have A7' := K7.row A6.out hp0
  have D7' := K7.row D6.out hp1
  have G7' := G6.trans K7
  have C7 := cu_sets (g := w.heap.size + 1) (o := 6) (vs := [.slice a3_3_0 l3_3_0 c3_3_0, .slice a3_3_1 l3_3_1 c3_3_1]) C7 hg
  have G7 : Keeps (Off2 p c) w (w7.setCells (w.heap.size + 1) 6 [.slice a3_3_0 l3_3_0 c3_3_0, .slice a3_3_1 l3_3_1 c3_3_1]) := keeps_sets G7' (by omega)
  have A7 := Lib.hid (row_sets (b := w.heap.size + 1) (o := 6) (vs := [.slice a3_3_0 l3_3_0 c3_3_0, .slice a3_3_1 l3_3_1 c3_3_1]) A7' (by omega))
  have D7 : Hid ((w7.setCells (w.heap.size + 1) 6 [.slice a3_3_0 l3_3_0 c3_3_0, .slice a3_3_1 l3_3_1 c3_3_1]).heap[w.heap.size + 1]? = some (.cells #[.int .i64 n0, .int .i64 n1, .int .i64 n2, .int .i64 n3_0, .int .i64 n3_1, .int .i64 n3_2, .slice a3_3_0 l3_3_0 c3_3_0, .slice a3_3_1 l3_3_1 c3_3_1, .string ByteArray.empty, .int .i64 0, .int .i64 0, .int .i64 0, .slice none 0 0, .slice none 0 0, .string ByteArray.empty] 65 (0, 0))) := Lib.hid (setCells_mid [.slice a3_3_0 l3_3_0 c3_3_0, .slice a3_3_1 l3_3_1 c3_3_1] [.slice none 0 0, .slice none 0 0] [.int .i64 n0, .int .i64 n1, .int .i64 n2, .int .i64 n3_0, .int .i64 n3_1, .int .i64 n3_2] [.string ByteArray.empty, .int .i64 0, .int .i64 0, .int .i64 0, .slice none 0 0, .slice none 0 0, .string ByteArray.empty] w7 rfl D7')
  have th := Lib.hid (there_row D7' 6 2 (by simp))
  have hs : (Try.prog.info? 59).map (·.size) = some 2 := by kernel_rfl
  have HS := Lib.hid hs; clear hs
  have ho := Lib.hid (all_oneCell_toArray (mkT_Config (a0 := a3_3_0) (l0 := l3_3_0) (c0 := c3_3_0) (a1 := a3_3_1) (l1 := l3_3_1) (c1 := c3_3_1)).one)
  obtain ⟨v7, hv7⟩ : ∃ v, w7.setCells (w.heap.size + 1) 6 [.slice a3_3_0 l3_3_0 c3_3_0, .slice a3_3_1 l3_3_1 c3_3_1] = v := ⟨_, rfl⟩
  rw [hv7] at C7 G7 A7 D7
  have HV7 := Lib.hid hv7; clear hv7
  clear A7' D7' G7'
  go_wp2_with (refine wpList_store_part rfl 59 _ _ rfl (w.heap.size + 1) 6 #[.slice a3_3_0 l3_3_0 c3_3_0, .slice a3_3_1 l3_3_1 c3_3_1] rfl rfl 2 rfl th.out HS.out ho.out v7 HV7.out ?_)
  clear th HS ho
  have T7 := Lib.hid T7
  refine (c_text p c B bs _ _ _ C7).mono ?_
  rintro e w8 ⟨K8, j8, bad8, q8, rfl, J8, C8, T8⟩
  obtain ⟨s3_4, rfl⟩ := J8
  simp only [one, List.headD_cons]
  have A8' := K8.row A7.out hp0
  have D8' := K8.row D7.out hp1
  have G8' := G7.trans K8
  have cc := box_cell D8' 8 rfl
  have ff : w8.frozen? ⟨w.heap.size + 1, 8, none⟩ = false := frozen_of_row w8 _ 8 _ _ D8'
  have C8 := cu_set (g := w.heap.size + 1) (o := 8) (v := .string s3_4) C8 hg
  have G8 : Keeps (Off2 p c) w (w8.setCell ⟨w.heap.size + 1, 8, none⟩ (.string s3_4)) := keeps_set G8' (by omega)
  have A8 := Lib.hid (row_set (b := w.heap.size + 1) (o := 8) (v := .string s3_4) A8' (by omega))
  have D8 : Hid ((w8.setCell ⟨w.heap.size + 1, 8, none⟩ (.string s3_4)).heap[w.heap.size + 1]? = some (.cells #[.int .i64 n0, .int .i64 n1, .int .i64 n2, .int .i64 n3_0, .int .i64 n3_1, .int .i64 n3_2, .slice a3_3_0 l3_3_0 c3_3_0, .slice a3_3_1 l3_3_1 c3_3_1, .string s3_4, .int .i64 0, .int .i64 0, .int .i64 0, .slice none 0 0, .slice none 0 0, .string ByteArray.empty] 65 (0, 0))) := Lib.hid (setCells_mid [.string s3_4] [.string ByteArray.empty] [.int .i64 n0, .int .i64 n1, .int .i64 n2, .int .i64 n3_0, .int .i64 n3_1, .int .i64 n3_2, .slice a3_3_0 l3_3_0 c3_3_0, .slice a3_3_1 l3_3_1 c3_3_1] [.int .i64 0, .int .i64 0, .int .i64 0, .slice none 0 0, .slice none 0 0, .string ByteArray.empty] w8 rfl D8')
  clear A8' D8' G8'
  go_wp2_with fail
  clear cc ff
  have T8 := Lib.hid T8
  refine (c_num p c B bs _ _ _ C8).mono ?_
  rintro e w9 ⟨K9, j9, bad9, q9, rfl, J9, C9, T9⟩
  obtain ⟨n4, rfl⟩ := J9
  simp only [one, List.headD_cons]
  have A9' := K9.row A8.out hp0
  have D9' := K9.row D8.out hp1
  have G9' := G8.trans K9
  have cc := box_cell D9' 9 rfl
  have ff : w9.frozen? ⟨w.heap.size + 1, 9, none⟩ = false := frozen_of_row w9 _ 9 _ _ D9'
  have C9 := cu_set (g := w.heap.size + 1) (o := 9) (v := .int .i64 n4) C9 hg
  have G9 : Keeps (Off2 p c) w (w9.setCell ⟨w.heap.size + 1, 9, none⟩ (.int .i64 n4)) := keeps_set G9' (by omega)
  have A9 := Lib.hid (row_set (b := w.heap.size + 1) (o := 9) (v := .int .i64 n4) A9' (by omega))
  have D9 : Hid ((w9.setCell ⟨w.heap.size + 1, 9, none⟩ (.int .i64 n4)).heap[w.heap.size + 1]? = some (.cells #[.int .i64 n0, .int .i64 n1, .int .i64 n2, .int .i64 n3_0, .int .i64 n3_1, .int .i64 n3_2, .slice a3_3_0 l3_3_0 c3_3_0, .slice a3_3_1 l3_3_1 c3_3_1, .string s3_4, .int .i64 n4, .int .i64 0, .int .i64 0, .slice none 0 0, .slice none 0 0, .string ByteArray.empty] 65 (0, 0))) := Lib.hid (setCells_mid [.int .i64 n4] [.int .i64 0] [.int .i64 n0, .int .i64 n1, .int .i64 n2, .int .i64 n3_0, .int .i64 n3_1, .int .i64 n3_2, .slice a3_3_0 l3_3_0 c3_3_0, .slice a3_3_1 l3_3_1 c3_3_1, .string s3_4] [.int .i64 0, .int .i64 0, .slice none 0 0, .slice none 0 0, .string ByteArray.empty] w9 rfl D9')
  clear A9' D9' G9'
  go_wp2_with fail
  clear cc ff
  have T9 := Lib.hid T9
  refine (c_num p c B bs _ _ _ C9).mono ?_
  rintro e w10 ⟨K10, j10, bad10, q10, rfl, J10, C10, T10⟩
  obtain ⟨n5_0, rfl⟩ := J10
  simp only [one, List.headD_cons]
  have A10' := K10.row A9.out hp0
  have D10' := K10.row D9.out hp1
  have G10' := G9.trans K10
  have cc := box_cell D10' 10 rfl
  have ff : w10.frozen? ⟨w.heap.size + 1, 10, none⟩ = false := frozen_of_row w10 _ 10 _ _ D10'
  have C10 := cu_set (g := w.heap.size + 1) (o := 10) (v := .int .i64 n5_0) C10 hg
  have G10 : Keeps (Off2 p c) w (w10.setCell ⟨w.heap.size + 1, 10, none⟩ (.int .i64 n5_0)) := keeps_set G10' (by omega)
  have A10 := Lib.hid (row_set (b := w.heap.size + 1) (o := 10) (v := .int .i64 n5_0) A10' (by omega))
  have D10 : Hid ((w10.setCell ⟨w.heap.size + 1, 10, none⟩ (.int .i64 n5_0)).heap[w.heap.size + 1]? = some (.cells #[.int .i64 n0, .int .i64 n1, .int .i64 n2, .int .i64 n3_0, .int .i64 n3_1, .int .i64 n3_2, .slice a3_3_0 l3_3_0 c3_3_0, .slice a3_3_1 l3_3_1 c3_3_1, .string s3_4, .int .i64 n4, .int .i64 n5_0, .int .i64 0, .slice none 0 0, .slice none 0 0, .string ByteArray.empty] 65 (0, 0))) := Lib.hid (setCells_mid [.int .i64 n5_0] [.int .i64 0] [.int .i64 n0, .int .i64 n1, .int .i64 n2, .int .i64 n3_0, .int .i64 n3_1, .int .i64 n3_2, .slice a3_3_0 l3_3_0 c3_3_0, .slice a3_3_1 l3_3_1 c3_3_1, .string s3_4, .int .i64 n4] [.int .i64 0, .slice none 0 0, .slice none 0 0, .string ByteArray.empty] w10 rfl D10')
  clear A10' D10' G10'
  go_wp2_with fail
  clear cc ff
  have T10 := Lib.hid T10
  refine (c_num p c B bs _ _ _ C10).mono ?_
  rintro e w11 ⟨K11, j11, bad11, q11, rfl, J11, C11, T11⟩
  obtain ⟨n5_1, rfl⟩ := J11
  simp only [one, List.headD_cons]
  have A11' := K11.row A10.out hp0
  have D11' := K11.row D10.out hp1
  have G11' := G10.trans K11
  have cc := box_cell D11' 11 rfl
  have ff : w11.frozen? ⟨w.heap.size + 1, 11, none⟩ = false := frozen_of_row w11 _ 11 _ _ D11'
  have C11 := cu_set (g := w.heap.size + 1) (o := 11) (v := .int .i64 n5_1) C11 hg
  have G11 : Keeps (Off2 p c) w (w11.setCell ⟨w.heap.size + 1, 11, none⟩ (.int .i64 n5_1)) := keeps_set G11' (by omega)
  have A11 := Lib.hid (row_set (b := w.heap.size + 1) (o := 11) (v := .int .i64 n5_1) A11' (by omega))
  have D11 : Hid ((w11.setCell ⟨w.heap.size + 1, 11, none⟩ (.int .i64 n5_1)).heap[w.heap.size + 1]? = some (.cells #[.int .i64 n0, .int .i64 n1, .int .i64 n2, .int .i64 n3_0, .int .i64 n3_1, .int .i64 n3_2, .slice a3_3_0 l3_3_0 c3_3_0, .slice a3_3_1 l3_3_1 c3_3_1, .string s3_4, .int .i64 n4, .int .i64 n5_0, .int .i64 n5_1, .slice none 0 0, .slice none 0 0, .string ByteArray.empty] 65 (0, 0))) := Lib.hid (setCells_mid [.int .i64 n5_1] [.int .i64 0] [.int .i64 n0, .int .i64 n1, .int .i64 n2, .int .i64 n3_0, .int .i64 n3_1, .int .i64 n3_2, .slice a3_3_0 l3_3_0 c3_3_0, .slice a3_3_1 l3_3_1 c3_3_1, .string s3_4, .int .i64 n4, .int .i64 n5_0] [.slice none 0 0, .slice none 0 0, .string ByteArray.empty] w11 rfl D11')
  clear A11' D11' G11'
  go_wp2_with fail
  clear cc ff
  have T11 := Lib.hid T11
  refine (c_config p c B bs _ _ _ C11).mono ?_
  rintro e w12 ⟨K12, j12, bad12, q12, rfl, J12, C12, T12⟩
  obtain ⟨a5_2_0, l5_2_0, c5_2_0, a5_2_1, l5_2_1, c5_2_1, rfl⟩ := typed_Config J12
  simp only [agg]
  have A12' := K12.row A11.out hp0
  have D12' := K12.row D11.out hp1
  have G12' := G11.trans K12
  have C12 := cu_sets (g := w.heap.size + 1) (o := 12) (vs := [.slice a5_2_0 l5_2_0 c5_2_0, .slice a5_2_1 l5_2_1 c5_2_1]) C12 hg
  have G12 : Keeps (Off2 p c) w (w12.setCells (w.heap.size + 1) 12 [.slice a5_2_0 l5_2_0 c5_2_0, .slice a5_2_1 l5_2_1 c5_2_1]) := keeps_sets G12' (by omega)
  have A12 := Lib.hid (row_sets (b := w.heap.size + 1) (o := 12) (vs := [.slice a5_2_0 l5_2_0 c5_2_0, .slice a5_2_1 l5_2_1 c5_2_1]) A12' (by omega))
  have D12 : Hid ((w12.setCells (w.heap.size + 1) 12 [.slice a5_2_0 l5_2_0 c5_2_0, .slice a5_2_1 l5_2_1 c5_2_1]).heap[w.heap.size + 1]? = some (.cells #[.int .i64 n0, .int .i64 n1, .int .i64 n2, .int .i64 n3_0, .int .i64 n3_1, .int .i64 n3_2, .slice a3_3_0 l3_3_0 c3_3_0, .slice a3_3_1 l3_3_1 c3_3_1, .string s3_4, .int .i64 n4, .int .i64 n5_0, .int .i64 n5_1, .slice a5_2_0 l5_2_0 c5_2_0, .slice a5_2_1 l5_2_1 c5_2_1, .string ByteArray.empty] 65 (0, 0))) := Lib.hid (setCells_mid [.slice a5_2_0 l5_2_0 c5_2_0, .slice a5_2_1 l5_2_1 c5_2_1] [.slice none 0 0, .slice none 0 0] [.int .i64 n0, .int .i64 n1, .int .i64 n2, .int .i64 n3_0, .int .i64 n3_1, .int .i64 n3_2, .slice a3_3_0 l3_3_0 c3_3_0, .slice a3_3_1 l3_3_1 c3_3_1, .string s3_4, .int .i64 n4, .int .i64 n5_0, .int .i64 n5_1] [.string ByteArray.empty] w12 rfl D12')
  have th := Lib.hid (there_row D12' 12 2 (by simp))
  have hs : (Try.prog.info? 59).map (·.size) = some 2 := by kernel_rfl
  have HS := Lib.hid hs; clear hs
  have ho := Lib.hid (all_oneCell_toArray (mkT_Config (a0 := a5_2_0) (l0 := l5_2_0) (c0 := c5_2_0) (a1 := a5_2_1) (l1 := l5_2_1) (c1 := c5_2_1)).one)
  obtain ⟨v12, hv12⟩ : ∃ v, w12.setCells (w.heap.size + 1) 12 [.slice a5_2_0 l5_2_0 c5_2_0, .slice a5_2_1 l5_2_1 c5_2_1] = v := ⟨_, rfl⟩
  rw [hv12] at C12 G12 A12 D12
  have HV12 := Lib.hid hv12; clear hv12
  clear A12' D12' G12'
  go_wp2_with (refine wpList_store_part rfl 59 _ _ rfl (w.heap.size + 1) 12 #[.slice a5_2_0 l5_2_0 c5_2_0, .slice a5_2_1 l5_2_1 c5_2_1] rfl rfl 2 rfl th.out HS.out ho.out v12 HV12.out ?_)
  clear th HS ho
  have T12 := Lib.hid T12
  refine (c_text p c B bs _ _ _ C12).mono ?_
  rintro e w13 ⟨K13, j13, bad13, q13, rfl, J13, C13, T13⟩
  obtain ⟨s5_3, rfl⟩ := J13
  simp only [one, List.headD_cons]
  have A13' := K13.row A12.out hp0
  have D13' := K13.row D12.out hp1
  have G13' := G12.trans K13
  have cc := box_cell D13' 14 rfl
  have ff : w13.frozen? ⟨w.heap.size + 1, 14, none⟩ = false := frozen_of_row w13 _ 14 _ _ D13'
  have C13 := cu_set (g := w.heap.size + 1) (o := 14) (v := .string s5_3) C13 hg
  have G13 : Keeps (Off2 p c) w (w13.setCell ⟨w.heap.size + 1, 14, none⟩ (.string s5_3)) := keeps_set G13' (by omega)
  have A13 := Lib.hid (row_set (b := w.heap.size + 1) (o := 14) (v := .string s5_3) A13' (by omega))
  have D13 : Hid ((w13.setCell ⟨w.heap.size + 1, 14, none⟩ (.string s5_3)).heap[w.heap.size + 1]? = some (.cells #[.int .i64 n0, .int .i64 n1, .int .i64 n2, .int .i64 n3_0, .int .i64 n3_1, .int .i64 n3_2, .slice a3_3_0 l3_3_0 c3_3_0, .slice a3_3_1 l3_3_1 c3_3_1, .string s3_4, .int .i64 n4, .int .i64 n5_0, .int .i64 n5_1, .slice a5_2_0 l5_2_0 c5_2_0, .slice a5_2_1 l5_2_1 c5_2_1, .string s5_3] 65 (0, 0))) := Lib.hid (setCells_mid [.string s5_3] [.string ByteArray.empty] [.int .i64 n0, .int .i64 n1, .int .i64 n2, .int .i64 n3_0, .int .i64 n3_1, .int .i64 n3_2, .slice a3_3_0 l3_3_0 c3_3_0, .slice a3_3_1 l3_3_1 c3_3_1, .string s3_4, .int .i64 n4, .int .i64 n5_0, .int .i64 n5_1, .slice a5_2_0 l5_2_0 c5_2_0, .slice a5_2_1 l5_2_1 c5_2_1] [] w13 rfl D13')
  clear A13' D13' G13'
  have T13 := Lib.hid T13
  have HA := Lib.hid (setRow_heap _ w.heap.size _ #[.int .i64 n0, .int .i64 n1, .int .i64 n2, .int .i64 n3_0, .int .i64 n3_1, .int .i64 n3_2, .slice a3_3_0 l3_3_0 c3_3_0, .slice a3_3_1 l3_3_1 c3_3_1, .string s3_4, .int .i64 n4, .int .i64 n5_0, .int .i64 n5_1, .slice a5_2_0 l5_2_0 c5_2_0, .slice a5_2_1 l5_2_1 c5_2_1, .string s5_3] _ _ A13.out)
  have rng := Lib.hid (box_range (cs := [.int .i64 n0, .int .i64 n1, .int .i64 n2, .int .i64 n3_0, .int .i64 n3_1, .int .i64 n3_2, .slice a3_3_0 l3_3_0 c3_3_0, .slice a3_3_1 l3_3_1 c3_3_1, .string s3_4, .int .i64 n4, .int .i64 n5_0, .int .i64 n5_1, .slice a5_2_0 l5_2_0 c5_2_0, .slice a5_2_1 l5_2_1 c5_2_1, .string s5_3]) D13.out)
  have h1 := Lib.hid (all_oneCell_toArray (mkT_Record (n0 := n0) (n1 := n1) (n2 := n2) (n3_0 := n3_0) (n3_1 := n3_1) (n3_2 := n3_2) (a3_3_0 := a3_3_0) (l3_3_0 := l3_3_0) (c3_3_0 := c3_3_0) (a3_3_1 := a3_3_1) (l3_3_1 := l3_3_1) (c3_3_1 := c3_3_1) (s3_4 := s3_4) (n4 := n4) (n5_0 := n5_0) (n5_1 := n5_1) (a5_2_0 := a5_2_0) (l5_2_0 := l5_2_0) (c5_2_0 := c5_2_0) (a5_2_1 := a5_2_1) (l5_2_1 := l5_2_1) (c5_2_1 := c5_2_1) (s5_3 := s5_3)).one)
  go_wp2_with (first | (refine wpList_load_mid rfl 65 _ rfl (w.heap.size + 1) 0 rfl _ _ rng.out Try.underlying65 rfl HI.out ?_) | (refine wpList_store_row rfl 65 _ _ rfl w.heap.size 65 _ #[.int .i64 n0, .int .i64 n1, .int .i64 n2, .int .i64 n3_0, .int .i64 n3_1, .int .i64 n3_2, .slice a3_3_0 l3_3_0 c3_3_0, .slice a3_3_1 l3_3_1 c3_3_1, .string s3_4, .int .i64 n4, .int .i64 n5_0, .int .i64 n5_1, .slice a5_2_0 l5_2_0 c5_2_0, .slice a5_2_1 l5_2_1 c5_2_1, .string s5_3] rfl rfl A13.out HI.out rfl h1.out ?_))
  refine bodyPost_ret (results_cell_row rfl _ _ w.heap.size _ _ (0, 0) _ rfl HA.out Try.underlying65 rfl HI.out) rfl ?_
  exact ⟨G13.setRow (Nat.le_refl _) _, _, _, _, rfl, mkT_Record, C13.setOwn (own_lt h (Nat.le_refl _)) (fun k hk => setRow_other _ _ _ _ hk), (T1.out.two (T2.out.two (T3.out.two ((T4.out.two (T5.out.two (T6.out.two (T7.out.two T8.out)))).two (T9.out.two (T10.out.two (T11.out.two (T12.out.two T13.out))))))))⟩

end Go.Proofs.Ytbhpbiimfcdgaaa
