/-
  The program's reader, by contract: configurations, entries, records (made by wip/gen_wire.py)
-/
import Derived.Test.YtbhpbiimfcdgaaaWireQ1
namespace Go.Proofs.Ytbhpbiimfcdgaaa
open Go.RowKit
set_option linter.unusedVariables false

variable {B : Nat}

set_option maxRecDepth 100000 in
set_option maxHeartbeats 2000000 in
theorem r_config (p : Nat) (bs : List UInt8) (w : World) (h : Re w p B bs) :
    Calls Try.prog 158 #[.pointer (some ⟨p, 0, none⟩)] w (RPost w p B shConfig bs agg) := by
  have hp := h.lt
  go_enter Try.func158, Try.ntmps158
  go_wp2_with fail
  refine (r_listNum p bs _ (h.alloc _)).mono ?_
  rintro e w1 ⟨K1, ⟨t0, r0, q0, P0, rfl, I0, R0⟩ | ⟨P0, rfl⟩⟩
  case inr => exact ⟨rfl, ((Keeps.refl.alloc _).trans K1), .inr ⟨(parse_fst P0), rfl⟩⟩
  obtain ⟨a0, l0, c0, rfl⟩ := I0.list_cells
  simp only [one, List.headD_cons]
  have P0 := Lib.hid P0
  have L1 := K1
  have z1 : w.heap.size + 1 ≤ w1.heap.size := by have := L1.size; simpa using this
  go_wp2_with fail
  refine (r_listNum p r0 _ R0).mono ?_
  rintro e w2 ⟨K2, ⟨t1, r1, q1, P1, rfl, I1, R1⟩ | ⟨P1, rfl⟩⟩
  case inr => exact ⟨rfl, ((Keeps.refl.alloc _).trans (L1.trans K2)), .inr ⟨(parse_snd P0.out P1), rfl⟩⟩
  obtain ⟨a1, l1, c1, rfl⟩ := I1.list_cells
  simp only [one, List.headD_cons]
  have P1 := Lib.hid P1
  have L2 := L1.trans K2
  have z2 : w.heap.size + 1 ≤ w2.heap.size := by have := L2.size; simpa using this
  have hrow := L2.row (heap_alloc_new w (.cells #[.slice none 0 0, .slice none 0 0] 59)) (show Off p w.heap.size from fun e => by omega)
  have HR := Lib.hid hrow; clear hrow
  have hi : (Try.prog.info? 59).map (·.size) = some 2 := by kernel_rfl
  have HI := Lib.hid hi; clear hi
  have J0 : Is w2 (New (w.heap.size + 1) w2.heap.size) (.list .num) [.slice a0 l0 c0] t0 := is_later I0 K2 (show p < w.heap.size + 1 by omega) (by simp)
  have J1 : Is w2 (New (w.heap.size + 1) w2.heap.size) (.list .num) [.slice a1 l1 c1] t1 := is_later I1 Keeps.refl (show p < w.heap.size + 1 by omega) z1
  have hI : Is w2 (New (w.heap.size + 1) w2.heap.size) shConfig [.slice a0 l0 c0, .slice a1 l1 c1] (t0 ++ t1) := mk_Config J0 J1
  have h1 := all_oneCell_toArray hI.oneCell
  have hI2 := is_shut (#[.slice a0 l0 c0, .slice a1 l1 c1]) hI
  have hRe := R1.setRow (g := w.heap.size) (by omega) (#[.slice a0 l0 c0, .slice a1 l1 c1])
  have HROW := Lib.hid (setRow_heap w2 w.heap.size _ #[.slice a0 l0 c0, .slice a1 l1 c1] _ _ HR.out)
  have H1 := Lib.hid h1; clear h1
  go_wp2_with (refine wpList_store_row rfl 59 _ _ rfl w.heap.size 59 _ #[.slice a0 l0 c0, .slice a1 l1 c1] rfl rfl HR.out HI.out rfl H1.out ?_)
  refine bodyPost_ret (results_cell_row rfl _ _ w.heap.size _ _ (0, 0) _ rfl HROW.out Try.underlying59 rfl HI.out) rfl ?_
  exact ⟨((Keeps.refl.alloc _).trans L2).setRow (Nat.le_refl _) _, .inl ⟨_, _, _, (parse_both P0.out P1.out), rfl, hI2, hRe⟩⟩

set_option maxRecDepth 100000 in
set_option maxHeartbeats 2000000 in
theorem r_entry (p : Nat) (bs : List UInt8) (w : World) (h : Re w p B bs) :
    Calls Try.prog 110 #[.pointer (some ⟨p, 0, none⟩)] w (RPost w p B shEntry bs agg) := by
  have hp := h.lt
  go_enter Try.func110, Try.ntmps110
  go_wp2_with fail
  refine (r_number p bs _ (h.alloc _)).mono ?_
  rintro e w1 ⟨K1, ⟨t0, r0, q0, P0, rfl, I0, R0⟩ | ⟨P0, rfl⟩⟩
  case inr => exact ⟨rfl, ((Keeps.refl.alloc _).trans K1), .inr ⟨(parse_fst P0), rfl⟩⟩
  obtain ⟨n0, lo0, hi0, rfl, rfl⟩ := I0
  simp only [one, List.headD_cons]
  have P0 := Lib.hid P0
  have L1 := K1
  have z1 : w.heap.size + 1 ≤ w1.heap.size := by have := L1.size; simpa using this
  go_wp2_with fail
  refine (r_number p r0 _ R0).mono ?_
  rintro e w2 ⟨K2, ⟨t1, r1, q1, P1, rfl, I1, R1⟩ | ⟨P1, rfl⟩⟩
  case inr => exact ⟨rfl, ((Keeps.refl.alloc _).trans (L1.trans K2)), .inr ⟨(parse_snd P0.out (parse_fst P1)), rfl⟩⟩
  obtain ⟨n1, lo1, hi1, rfl, rfl⟩ := I1
  simp only [one, List.headD_cons]
  have P1 := Lib.hid P1
  have L2 := L1.trans K2
  have z2 : w.heap.size + 1 ≤ w2.heap.size := by have := L2.size; simpa using this
  go_wp2_with fail
  refine (r_number p r1 _ R1).mono ?_
  rintro e w3 ⟨K3, ⟨t2, r2, q2, P2, rfl, I2, R2⟩ | ⟨P2, rfl⟩⟩
  case inr => exact ⟨rfl, ((Keeps.refl.alloc _).trans (L2.trans K3)), .inr ⟨(parse_snd P0.out (parse_snd P1.out (parse_fst P2))), rfl⟩⟩
  obtain ⟨n2, lo2, hi2, rfl, rfl⟩ := I2
  simp only [one, List.headD_cons]
  have P2 := Lib.hid P2
  have L3 := L2.trans K3
  have z3 : w.heap.size + 1 ≤ w3.heap.size := by have := L3.size; simpa using this
  go_wp2_with fail
  refine (r_config p r2 _ R2).mono ?_
  rintro e w4 ⟨K4, ⟨t3, r3, q3, P3, rfl, I3, R3⟩ | ⟨P3, rfl⟩⟩
  case inr => exact ⟨rfl, ((Keeps.refl.alloc _).trans (L3.trans K4)), .inr ⟨(parse_snd P0.out (parse_snd P1.out (parse_snd P2.out (parse_fst P3)))), rfl⟩⟩
  obtain ⟨a3_0, l3_0, c3_0, a3_1, l3_1, c3_1, rfl⟩ := cells_Config I3
  simp only [agg]
  have P3 := Lib.hid P3
  have L4 := L3.trans K4
  have z4 : w.heap.size + 1 ≤ w4.heap.size := by have := L4.size; simpa using this
  go_wp2_with fail
  refine (r_text p r3 _ R3).mono ?_
  rintro e w5 ⟨K5, ⟨t4, r4, q4, P4, rfl, I4, R4⟩ | ⟨P4, rfl⟩⟩
  case inr => exact ⟨rfl, ((Keeps.refl.alloc _).trans (L4.trans K5)), .inr ⟨(parse_snd P0.out (parse_snd P1.out (parse_snd P2.out (parse_snd P3.out P4)))), rfl⟩⟩
  obtain ⟨s4, hs4, rfl, rfl⟩ := I4
  simp only [one, List.headD_cons]
  have P4 := Lib.hid P4
  have L5 := L4.trans K5
  have z5 : w.heap.size + 1 ≤ w5.heap.size := by have := L5.size; simpa using this
  have hrow := L5.row (heap_alloc_new w (.cells #[.int .i64 0, .int .i64 0, .int .i64 0, .slice none 0 0, .slice none 0 0, .string ByteArray.empty] 61)) (show Off p w.heap.size from fun e => by omega)
  have HR := Lib.hid hrow; clear hrow
  have hi : (Try.prog.info? 61).map (·.size) = some 6 := by kernel_rfl
  have HI := Lib.hid hi; clear hi
  have J3 : Is w5 (New (w.heap.size + 1) w5.heap.size) shConfig [.slice a3_0 l3_0 c3_0, .slice a3_1 l3_1 c3_1] t3 := is_later I3 K5 (show p < w.heap.size + 1 by omega) z3
  have hI : Is w5 (New (w.heap.size + 1) w5.heap.size) shEntry [.int .i64 n0, .int .i64 n1, .int .i64 n2, .slice a3_0 l3_0 c3_0, .slice a3_1 l3_1 c3_1, .string s4] ([Tok.num n0] ++ ([Tok.num n1] ++ ([Tok.num n2] ++ (t3 ++ [Tok.text s4.data.toList])))) := mk_Entry lo0 hi0 lo1 hi1 lo2 hi2 J3 hs4
  have h1 := all_oneCell_toArray hI.oneCell
  have hI2 := is_shut (#[.int .i64 n0, .int .i64 n1, .int .i64 n2, .slice a3_0 l3_0 c3_0, .slice a3_1 l3_1 c3_1, .string s4]) hI
  have hRe := R4.setRow (g := w.heap.size) (by omega) (#[.int .i64 n0, .int .i64 n1, .int .i64 n2, .slice a3_0 l3_0 c3_0, .slice a3_1 l3_1 c3_1, .string s4])
  have HROW := Lib.hid (setRow_heap w5 w.heap.size _ #[.int .i64 n0, .int .i64 n1, .int .i64 n2, .slice a3_0 l3_0 c3_0, .slice a3_1 l3_1 c3_1, .string s4] _ _ HR.out)
  have H1 := Lib.hid h1; clear h1
  go_wp2_with (refine wpList_store_row rfl 61 _ _ rfl w.heap.size 61 _ #[.int .i64 n0, .int .i64 n1, .int .i64 n2, .slice a3_0 l3_0 c3_0, .slice a3_1 l3_1 c3_1, .string s4] rfl rfl HR.out HI.out rfl H1.out ?_)
  refine bodyPost_ret (results_cell_row rfl _ _ w.heap.size _ _ (0, 0) _ rfl HROW.out Try.underlying61 rfl HI.out) rfl ?_
  exact ⟨((Keeps.refl.alloc _).trans L5).setRow (Nat.le_refl _) _, .inl ⟨_, _, _, (parse_both P0.out (parse_both P1.out (parse_both P2.out (parse_both P3.out P4.out)))), rfl, hI2, hRe⟩⟩

set_option maxRecDepth 100000 in
set_option maxHeartbeats 2000000 in
theorem r_snapshot (p : Nat) (bs : List UInt8) (w : World) (h : Re w p B bs) :
    Calls Try.prog 111 #[.pointer (some ⟨p, 0, none⟩)] w (RPost w p B shSnapshot bs agg) := by
  have hp := h.lt
  go_enter Try.func111, Try.ntmps111
  go_wp2_with fail
  refine (r_number p bs _ (h.alloc _)).mono ?_
  rintro e w1 ⟨K1, ⟨t0, r0, q0, P0, rfl, I0, R0⟩ | ⟨P0, rfl⟩⟩
  case inr => exact ⟨rfl, ((Keeps.refl.alloc _).trans K1), .inr ⟨(parse_fst P0), rfl⟩⟩
  obtain ⟨n0, lo0, hi0, rfl, rfl⟩ := I0
  simp only [one, List.headD_cons]
  have P0 := Lib.hid P0
  have L1 := K1
  have z1 : w.heap.size + 1 ≤ w1.heap.size := by have := L1.size; simpa using this
  go_wp2_with fail
  refine (r_number p r0 _ R0).mono ?_
  rintro e w2 ⟨K2, ⟨t1, r1, q1, P1, rfl, I1, R1⟩ | ⟨P1, rfl⟩⟩
  case inr => exact ⟨rfl, ((Keeps.refl.alloc _).trans (L1.trans K2)), .inr ⟨(parse_snd P0.out (parse_fst P1)), rfl⟩⟩
  obtain ⟨n1, lo1, hi1, rfl, rfl⟩ := I1
  simp only [one, List.headD_cons]
  have P1 := Lib.hid P1
  have L2 := L1.trans K2
  have z2 : w.heap.size + 1 ≤ w2.heap.size := by have := L2.size; simpa using this
  go_wp2_with fail
  refine (r_config p r1 _ R1).mono ?_
  rintro e w3 ⟨K3, ⟨t2, r2, q2, P2, rfl, I2, R2⟩ | ⟨P2, rfl⟩⟩
  case inr => exact ⟨rfl, ((Keeps.refl.alloc _).trans (L2.trans K3)), .inr ⟨(parse_snd P0.out (parse_snd P1.out (parse_fst P2))), rfl⟩⟩
  obtain ⟨a2_0, l2_0, c2_0, a2_1, l2_1, c2_1, rfl⟩ := cells_Config I2
  simp only [agg]
  have P2 := Lib.hid P2
  have L3 := L2.trans K3
  have z3 : w.heap.size + 1 ≤ w3.heap.size := by have := L3.size; simpa using this
  go_wp2_with fail
  refine (r_text p r2 _ R2).mono ?_
  rintro e w4 ⟨K4, ⟨t3, r3, q3, P3, rfl, I3, R3⟩ | ⟨P3, rfl⟩⟩
  case inr => exact ⟨rfl, ((Keeps.refl.alloc _).trans (L3.trans K4)), .inr ⟨(parse_snd P0.out (parse_snd P1.out (parse_snd P2.out P3))), rfl⟩⟩
  obtain ⟨s3, hs3, rfl, rfl⟩ := I3
  simp only [one, List.headD_cons]
  have P3 := Lib.hid P3
  have L4 := L3.trans K4
  have z4 : w.heap.size + 1 ≤ w4.heap.size := by have := L4.size; simpa using this
  have hrow := L4.row (heap_alloc_new w (.cells #[.int .i64 0, .int .i64 0, .slice none 0 0, .slice none 0 0, .string ByteArray.empty] 63)) (show Off p w.heap.size from fun e => by omega)
  have HR := Lib.hid hrow; clear hrow
  have hi : (Try.prog.info? 63).map (·.size) = some 5 := by kernel_rfl
  have HI := Lib.hid hi; clear hi
  have J2 : Is w4 (New (w.heap.size + 1) w4.heap.size) shConfig [.slice a2_0 l2_0 c2_0, .slice a2_1 l2_1 c2_1] t2 := is_later I2 K4 (show p < w.heap.size + 1 by omega) z2
  have hI : Is w4 (New (w.heap.size + 1) w4.heap.size) shSnapshot [.int .i64 n0, .int .i64 n1, .slice a2_0 l2_0 c2_0, .slice a2_1 l2_1 c2_1, .string s3] ([Tok.num n0] ++ ([Tok.num n1] ++ (t2 ++ [Tok.text s3.data.toList]))) := mk_Snapshot lo0 hi0 lo1 hi1 J2 hs3
  have h1 := all_oneCell_toArray hI.oneCell
  have hI2 := is_shut (#[.int .i64 n0, .int .i64 n1, .slice a2_0 l2_0 c2_0, .slice a2_1 l2_1 c2_1, .string s3]) hI
  have hRe := R3.setRow (g := w.heap.size) (by omega) (#[.int .i64 n0, .int .i64 n1, .slice a2_0 l2_0 c2_0, .slice a2_1 l2_1 c2_1, .string s3])
  have HROW := Lib.hid (setRow_heap w4 w.heap.size _ #[.int .i64 n0, .int .i64 n1, .slice a2_0 l2_0 c2_0, .slice a2_1 l2_1 c2_1, .string s3] _ _ HR.out)
  have H1 := Lib.hid h1; clear h1
  go_wp2_with (refine wpList_store_row rfl 63 _ _ rfl w.heap.size 63 _ #[.int .i64 n0, .int .i64 n1, .slice a2_0 l2_0 c2_0, .slice a2_1 l2_1 c2_1, .string s3] rfl rfl HR.out HI.out rfl H1.out ?_)
  refine bodyPost_ret (results_cell_row rfl _ _ w.heap.size _ _ (0, 0) _ rfl HROW.out Try.underlying63 rfl HI.out) rfl ?_
  exact ⟨((Keeps.refl.alloc _).trans L4).setRow (Nat.le_refl _) _, .inl ⟨_, _, _, (parse_both P0.out (parse_both P1.out (parse_both P2.out P3.out))), rfl, hI2, hRe⟩⟩

set_option maxRecDepth 100000 in
set_option maxHeartbeats 2000000 in
theorem r_record (p : Nat) (bs : List UInt8) (w : World) (h : Re w p B bs) :
    Calls Try.prog 50 #[.pointer (some ⟨p, 0, none⟩)] w (RPost w p B shRecord bs agg) := by
  have hp := h.lt
  go_enter Try.func50, Try.ntmps50
  go_wp2_with fail
  refine (r_number p bs _ (h.alloc _)).mono ?_
  rintro e w1 ⟨K1, ⟨t0, r0, q0, P0, rfl, I0, R0⟩ | ⟨P0, rfl⟩⟩
  case inr => exact ⟨rfl, ((Keeps.refl.alloc _).trans K1), .inr ⟨(parse_fst P0), rfl⟩⟩
  obtain ⟨n0, lo0, hi0, rfl, rfl⟩ := I0
  simp only [one, List.headD_cons]
  have P0 := Lib.hid P0
  have L1 := K1
  have z1 : w.heap.size + 1 ≤ w1.heap.size := by have := L1.size; simpa using this
  go_wp2_with fail
  refine (r_number p r0 _ R0).mono ?_
  rintro e w2 ⟨K2, ⟨t1, r1, q1, P1, rfl, I1, R1⟩ | ⟨P1, rfl⟩⟩
  case inr => exact ⟨rfl, ((Keeps.refl.alloc _).trans (L1.trans K2)), .inr ⟨(parse_snd P0.out (parse_fst P1)), rfl⟩⟩
  obtain ⟨n1, lo1, hi1, rfl, rfl⟩ := I1
  simp only [one, List.headD_cons]
  have P1 := Lib.hid P1
  have L2 := L1.trans K2
  have z2 : w.heap.size + 1 ≤ w2.heap.size := by have := L2.size; simpa using this
  go_wp2_with fail
  refine (r_number p r1 _ R1).mono ?_
  rintro e w3 ⟨K3, ⟨t2, r2, q2, P2, rfl, I2, R2⟩ | ⟨P2, rfl⟩⟩
  case inr => exact ⟨rfl, ((Keeps.refl.alloc _).trans (L2.trans K3)), .inr ⟨(parse_snd P0.out (parse_snd P1.out (parse_fst P2))), rfl⟩⟩
  obtain ⟨n2, lo2, hi2, rfl, rfl⟩ := I2
  simp only [one, List.headD_cons]
  have P2 := Lib.hid P2
  have L3 := L2.trans K3
  have z3 : w.heap.size + 1 ≤ w3.heap.size := by have := L3.size; simpa using this
  go_wp2_with fail
  refine (r_entry p r2 _ R2).mono ?_
  rintro e w4 ⟨K4, ⟨t3, r3, q3, P3, rfl, I3, R3⟩ | ⟨P3, rfl⟩⟩
  case inr => exact ⟨rfl, ((Keeps.refl.alloc _).trans (L3.trans K4)), .inr ⟨(parse_snd P0.out (parse_snd P1.out (parse_snd P2.out (parse_fst P3)))), rfl⟩⟩
  obtain ⟨n3_0, n3_1, n3_2, a3_3_0, l3_3_0, c3_3_0, a3_3_1, l3_3_1, c3_3_1, s3_4, rfl⟩ := cells_Entry I3
  simp only [agg]
  have P3 := Lib.hid P3
  have L4 := L3.trans K4
  have z4 : w.heap.size + 1 ≤ w4.heap.size := by have := L4.size; simpa using this
  go_wp2_with fail
  refine (r_number p r3 _ R3).mono ?_
  rintro e w5 ⟨K5, ⟨t4, r4, q4, P4, rfl, I4, R4⟩ | ⟨P4, rfl⟩⟩
  case inr => exact ⟨rfl, ((Keeps.refl.alloc _).trans (L4.trans K5)), .inr ⟨(parse_snd P0.out (parse_snd P1.out (parse_snd P2.out (parse_snd P3.out (parse_fst P4))))), rfl⟩⟩
  obtain ⟨n4, lo4, hi4, rfl, rfl⟩ := I4
  simp only [one, List.headD_cons]
  have P4 := Lib.hid P4
  have L5 := L4.trans K5
  have z5 : w.heap.size + 1 ≤ w5.heap.size := by have := L5.size; simpa using this
  go_wp2_with fail
  refine (r_snapshot p r4 _ R4).mono ?_
  rintro e w6 ⟨K6, ⟨t5, r5, q5, P5, rfl, I5, R5⟩ | ⟨P5, rfl⟩⟩
  case inr => exact ⟨rfl, ((Keeps.refl.alloc _).trans (L5.trans K6)), .inr ⟨(parse_snd P0.out (parse_snd P1.out (parse_snd P2.out (parse_snd P3.out (parse_snd P4.out P5))))), rfl⟩⟩
  obtain ⟨n5_0, n5_1, a5_2_0, l5_2_0, c5_2_0, a5_2_1, l5_2_1, c5_2_1, s5_3, rfl⟩ := cells_Snapshot I5
  simp only [agg]
  have P5 := Lib.hid P5
  have L6 := L5.trans K6
  have z6 : w.heap.size + 1 ≤ w6.heap.size := by have := L6.size; simpa using this
  have hrow := L6.row (heap_alloc_new w (.cells #[.int .i64 0, .int .i64 0, .int .i64 0, .int .i64 0, .int .i64 0, .int .i64 0, .slice none 0 0, .slice none 0 0, .string ByteArray.empty, .int .i64 0, .int .i64 0, .int .i64 0, .slice none 0 0, .slice none 0 0, .string ByteArray.empty] 65)) (show Off p w.heap.size from fun e => by omega)
  have HR := Lib.hid hrow; clear hrow
  have hi : (Try.prog.info? 65).map (·.size) = some 15 := by kernel_rfl
  have HI := Lib.hid hi; clear hi
  have J3 : Is w6 (New (w.heap.size + 1) w6.heap.size) shEntry [.int .i64 n3_0, .int .i64 n3_1, .int .i64 n3_2, .slice a3_3_0 l3_3_0 c3_3_0, .slice a3_3_1 l3_3_1 c3_3_1, .string s3_4] t3 := is_later I3 (K5.trans K6) (show p < w.heap.size + 1 by omega) z3
  have J5 : Is w6 (New (w.heap.size + 1) w6.heap.size) shSnapshot [.int .i64 n5_0, .int .i64 n5_1, .slice a5_2_0 l5_2_0 c5_2_0, .slice a5_2_1 l5_2_1 c5_2_1, .string s5_3] t5 := is_later I5 Keeps.refl (show p < w.heap.size + 1 by omega) z5
  have hI : Is w6 (New (w.heap.size + 1) w6.heap.size) shRecord [.int .i64 n0, .int .i64 n1, .int .i64 n2, .int .i64 n3_0, .int .i64 n3_1, .int .i64 n3_2, .slice a3_3_0 l3_3_0 c3_3_0, .slice a3_3_1 l3_3_1 c3_3_1, .string s3_4, .int .i64 n4, .int .i64 n5_0, .int .i64 n5_1, .slice a5_2_0 l5_2_0 c5_2_0, .slice a5_2_1 l5_2_1 c5_2_1, .string s5_3] ([Tok.num n0] ++ ([Tok.num n1] ++ ([Tok.num n2] ++ (t3 ++ ([Tok.num n4] ++ t5))))) := mk_Record lo0 hi0 lo1 hi1 lo2 hi2 J3 lo4 hi4 J5
  have h1 := all_oneCell_toArray hI.oneCell
  have hI2 := is_shut (#[.int .i64 n0, .int .i64 n1, .int .i64 n2, .int .i64 n3_0, .int .i64 n3_1, .int .i64 n3_2, .slice a3_3_0 l3_3_0 c3_3_0, .slice a3_3_1 l3_3_1 c3_3_1, .string s3_4, .int .i64 n4, .int .i64 n5_0, .int .i64 n5_1, .slice a5_2_0 l5_2_0 c5_2_0, .slice a5_2_1 l5_2_1 c5_2_1, .string s5_3]) hI
  have hRe := R5.setRow (g := w.heap.size) (by omega) (#[.int .i64 n0, .int .i64 n1, .int .i64 n2, .int .i64 n3_0, .int .i64 n3_1, .int .i64 n3_2, .slice a3_3_0 l3_3_0 c3_3_0, .slice a3_3_1 l3_3_1 c3_3_1, .string s3_4, .int .i64 n4, .int .i64 n5_0, .int .i64 n5_1, .slice a5_2_0 l5_2_0 c5_2_0, .slice a5_2_1 l5_2_1 c5_2_1, .string s5_3])
  have HROW := Lib.hid (setRow_heap w6 w.heap.size _ #[.int .i64 n0, .int .i64 n1, .int .i64 n2, .int .i64 n3_0, .int .i64 n3_1, .int .i64 n3_2, .slice a3_3_0 l3_3_0 c3_3_0, .slice a3_3_1 l3_3_1 c3_3_1, .string s3_4, .int .i64 n4, .int .i64 n5_0, .int .i64 n5_1, .slice a5_2_0 l5_2_0 c5_2_0, .slice a5_2_1 l5_2_1 c5_2_1, .string s5_3] _ _ HR.out)
  have H1 := Lib.hid h1; clear h1
  go_wp2_with (refine wpList_store_row rfl 65 _ _ rfl w.heap.size 65 _ #[.int .i64 n0, .int .i64 n1, .int .i64 n2, .int .i64 n3_0, .int .i64 n3_1, .int .i64 n3_2, .slice a3_3_0 l3_3_0 c3_3_0, .slice a3_3_1 l3_3_1 c3_3_1, .string s3_4, .int .i64 n4, .int .i64 n5_0, .int .i64 n5_1, .slice a5_2_0 l5_2_0 c5_2_0, .slice a5_2_1 l5_2_1 c5_2_1, .string s5_3] rfl rfl HR.out HI.out rfl H1.out ?_)
  refine bodyPost_ret (results_cell_row rfl _ _ w.heap.size _ _ (0, 0) _ rfl HROW.out Try.underlying65 rfl HI.out) rfl ?_
  exact ⟨((Keeps.refl.alloc _).trans L6).setRow (Nat.le_refl _) _, .inl ⟨_, _, _, (parse_both P0.out (parse_both P1.out (parse_both P2.out (parse_both P3.out (parse_both P4.out P5.out))))), rfl, hI2, hRe⟩⟩

end Go.Proofs.Ytbhpbiimfcdgaaa
