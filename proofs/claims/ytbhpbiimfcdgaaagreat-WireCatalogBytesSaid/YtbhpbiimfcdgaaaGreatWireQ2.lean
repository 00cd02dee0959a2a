/-
  The program's reader, by contract: rules, lists of columns, commands, operations (made by wip/gen_wire.py)
-/
import Derived.Test.YtbhpbiimfcdgaaaGreatWireQ1
namespace Go.Proofs.YtbhpbiimfcdgaaaGreat
open Go.RowKit
set_option linter.unusedVariables false

variable {B : Nat}

theorem info_Column : (Tryz.prog.info? 162).map (fun i => (i.zero, i.size, i.bytes)) = some (some (.agg #[.string ByteArray.empty, .int .i64 0, .bool false]), 3, 32) := by kernel_rfl
set_option maxRecDepth 100000 in
set_option maxHeartbeats 2000000 in
theorem r_listColumn (p : Nat) (bs : List UInt8) (w : World) (h : Re w p B bs) :
    Calls Tryz.prog 72 #[.pointer (some ⟨p, 0, none⟩), .func (.func 73) #[] #[]] w (RPost w p B (.list shColumn) bs one) := by
  obtain ⟨i0, hi, hz0, hz1, hz2⟩ := info_parts info_Column
  have hp := h.lt
  go_enter Tryz.func72, Tryz.ntmps72
  go_wp2_with fail
  refine (r_count p 4096 bs w h (by omega)).mono ?_
  rintro e w0 ⟨K0, ⟨n, r0, P0, rfl, R0⟩ | ⟨P0, rfl⟩⟩
  case inr => exact ⟨rfl, K0, .inr ⟨parse_list_none P0, rfl⟩⟩
  have hn := (pNum_some P0).1
  have P0 := Lib.hid P0
  go_wp2_with fail
  go_loopw [5, 8] (fun o i wr => ∃ (k : Nat) (tss : List (List Tok)) (r : List UInt8) (o' : Value), o' = o ∧ k ≤ n ∧ i = .int .i64 k ∧ parseN (parse shColumn) k r0 = some (tss.flatten, r) ∧ Row wr w.heap.size 162 shColumn o' k tss ∧ Re wr p B r ∧ Keeps (Off p) w wr) (fun _ i _ => n - (intOf i).toNat)
  case atStart => exact ⟨0, [], r0, _, rfl, Nat.zero_le _, rfl, rfl, Row.nil _ _ _ _, R0, K0⟩
  case round =>
    obtain ⟨k, tss, r, o', rfl, hk, rfl, hP, hRow, hR, hK⟩ := hrel
    have hP := Lib.hid hP
    by_cases hlt : k < n
    · have hwr := hK.size
      go_wp2_with fail
      refine (r_column p r wr hR).mono ?_
      rintro e w1 ⟨K1, ⟨t, r1, x, P1, rfl, I1, R1⟩ | ⟨P1, rfl⟩⟩
      case inr => exact ⟨rfl, hK.trans K1, .inr ⟨parse_list_fail P0.out (parseN_fail hP.out P1 hlt), rfl⟩⟩
      have P1 := Lib.hid P1
      obtain ⟨s0, n1, b2, rfl⟩ := cells_Column I1
      simp only [agg]
      have hI1 := Lib.hid I1.oneCell
      obtain ⟨xss, x1, x2, x3, x4, x5⟩ := hRow
      have hob := fun j hj => (World.ownsRow.lt x3 j hj).1
      have y3 := own_off (own_off x3 K1 hp) (Keeps.refl.alloc (.cells #[.string s0, .int .i64 n1, .bool b2] 162)) hp
      have X1 := Lib.hid x1; clear x1
      have X2 := Lib.hid x2; clear x2
      have X4 := Lib.hid x4; clear x4
      have X5 := Lib.hid x5; clear x5
      have HOB := Lib.hid hob; clear hob
      go_wp2_with (at_builtin; refine wpList_append_own_at _ rfl _ _ 64 rfl w.heap.size 162 i0 _ 3 32 Tryz.underlying64 hi hz0 hz1 hz2 rfl (by decide) _ _ _ rfl y3 ⟨_, 0, none⟩ 1 1 [.string s0, .int .i64 n1, .bool b2] rfl rfl ?c1 ?c2 ?c3 ?c4 ?c5 ?_)
      case c1 => exact fun j u hu => cell_fresh _ _ _ j u hu
      case c2 => exact hI1.out
      case c3 => unfold maxLen; omega
      case c4 => omega
      case c5 => have := K1.size; simp; omega
      intro o3 w3 hown3 hgrow _ hat3
      have hRow3 := Row.more _ X1.out X2.out x3 X4.out X5.out K1 hp hwr I1 hown3 hgrow hat3
      have hR3 : Re w3 p B r1 := (R1.alloc _).kept (Keeps.of_grown (S := fun b => some b ≠ o'.ownBlock) hgrow fun k hk h => h hk.symm) (fun e => by have := HOB.out p e.symm; omega) (fun k hk e => by have := HOB.out k e.symm; have := hR.1; omega)
      have hK3 : Keeps (Off p) w w3 := keeps_grown (hK.trans (K1.alloc _)) hgrow HOB.out
      have hP3 := parseN_step hP.out P1.out
      rw [show tss.flatten ++ t = (tss ++ [t]).flatten by simp] at hP3
      have HP3 := Lib.hid hP3; clear hP3
      clear hown3 hat3
      go_wp2_with fail
      go_roundw
      case rel => exact ⟨k + 1, _, r1, o3, rfl, by omega, by go_num, HP3.out, hRow3, hR3, hK3⟩
      case measure => simp [intOf]; omega
    · have hkn : k = n := by omega
      obtain ⟨a', c', ho, hI⟩ := hRow.list (by omega) (by decide)
      have hP2 := parse_list_some P0.out (hkn ▸ hP.out)
      have HKN := Lib.hid hkn; clear hkn
      have HO := Lib.hid ho; clear ho
      have HP2 := Lib.hid hP2; clear hP2
      go_wp2_with fail
      go_ret
      exact ⟨hK, .inl ⟨_, _, _, HP2.out, rfl, by rw [← HKN.out]; exact hI, hR⟩⟩

set_option maxRecDepth 100000 in
set_option maxHeartbeats 2000000 in
theorem r_rule (p : Nat) (bs : List UInt8) (w : World) (h : Re w p B bs) :
    Calls Tryz.prog 75 #[.pointer (some ⟨p, 0, none⟩)] w (RPost w p B shRule bs agg) := by
  have hp := h.lt
  go_enter Tryz.func75, Tryz.ntmps75
  go_wp2_with fail
  refine (r_text p bs _ (h.alloc _)).mono ?_
  rintro e w1 ⟨K1, ⟨t0, r0, q0, P0, rfl, I0, R0⟩ | ⟨P0, rfl⟩⟩
  case inr => exact ⟨rfl, ((Keeps.refl.alloc _).trans K1), .inr ⟨(parse_fst P0), rfl⟩⟩
  obtain ⟨s0, hs0, rfl, rfl⟩ := I0
  simp only [one, List.headD_cons]
  have P0 := Lib.hid P0
  have L1 := K1
  have z1 : w.heap.size + 1 ≤ w1.heap.size := by have := L1.size; simpa using this
  go_wp2_with fail
  refine (r_number p r0 _ R0).mono ?_
  rintro e w2 ⟨K2, ⟨t1, r1, q1, P1, rfl, I1, R1⟩ | ⟨P1, rfl⟩⟩
  case inr => exact ⟨rfl, ((Keeps.refl.alloc _).trans (L1.trans K2)), .inr ⟨(parse_snd P0.out (parse_fst P1)), rfl⟩⟩
  obtain ⟨n1, lo1, hi1, rfl, rfl⟩ := I1
  simp only [one, List.headD_cons]
  have P1 := Lib.hid P1
  have L2 := L1.trans K2
  have z2 : w.heap.size + 1 ≤ w2.heap.size := by have := L2.size; simpa using this
  go_wp2_with fail
  refine (r_listText p r1 _ R1).mono ?_
  rintro e w3 ⟨K3, ⟨t2, r2, q2, P2, rfl, I2, R2⟩ | ⟨P2, rfl⟩⟩
  case inr => exact ⟨rfl, ((Keeps.refl.alloc _).trans (L2.trans K3)), .inr ⟨(parse_snd P0.out (parse_snd P1.out (parse_fst P2))), rfl⟩⟩
  obtain ⟨a2, l2, c2, rfl⟩ := I2.list_cells
  simp only [one, List.headD_cons]
  have P2 := Lib.hid P2
  have L3 := L2.trans K3
  have z3 : w.heap.size + 1 ≤ w3.heap.size := by have := L3.size; simpa using this
  go_wp2_with fail
  refine (r_whole p r2 _ R2).mono ?_
  rintro e w4 ⟨K4, ⟨t3, r3, q3, P3, rfl, I3, R3⟩ | ⟨P3, rfl⟩⟩
  case inr => exact ⟨rfl, ((Keeps.refl.alloc _).trans (L3.trans K4)), .inr ⟨(parse_snd P0.out (parse_snd P1.out (parse_snd P2.out (parse_fst P3)))), rfl⟩⟩
  obtain ⟨n3, lo3, hi3, rfl, rfl⟩ := I3
  simp only [one, List.headD_cons]
  have P3 := Lib.hid P3
  have L4 := L3.trans K4
  have z4 : w.heap.size + 1 ≤ w4.heap.size := by have := L4.size; simpa using this
  go_wp2_with fail
  refine (r_whole p r3 _ R3).mono ?_
  rintro e w5 ⟨K5, ⟨t4, r4, q4, P4, rfl, I4, R4⟩ | ⟨P4, rfl⟩⟩
  case inr => exact ⟨rfl, ((Keeps.refl.alloc _).trans (L4.trans K5)), .inr ⟨(parse_snd P0.out (parse_snd P1.out (parse_snd P2.out (parse_snd P3.out (parse_fst P4))))), rfl⟩⟩
  obtain ⟨n4, lo4, hi4, rfl, rfl⟩ := I4
  simp only [one, List.headD_cons]
  have P4 := Lib.hid P4
  have L5 := L4.trans K5
  have z5 : w.heap.size + 1 ≤ w5.heap.size := by have := L5.size; simpa using this
  go_wp2_with fail
  refine (r_text p r4 _ R4).mono ?_
  rintro e w6 ⟨K6, ⟨t5, r5, q5, P5, rfl, I5, R5⟩ | ⟨P5, rfl⟩⟩
  case inr => exact ⟨rfl, ((Keeps.refl.alloc _).trans (L5.trans K6)), .inr ⟨(parse_snd P0.out (parse_snd P1.out (parse_snd P2.out (parse_snd P3.out (parse_snd P4.out (parse_fst P5)))))), rfl⟩⟩
  obtain ⟨s5, hs5, rfl, rfl⟩ := I5
  simp only [one, List.headD_cons]
  have P5 := Lib.hid P5
  have L6 := L5.trans K6
  have z6 : w.heap.size + 1 ≤ w6.heap.size := by have := L6.size; simpa using this
  go_wp2_with fail
  refine (r_text p r5 _ R5).mono ?_
  rintro e w7 ⟨K7, ⟨t6, r6, q6, P6, rfl, I6, R6⟩ | ⟨P6, rfl⟩⟩
  case inr => exact ⟨rfl, ((Keeps.refl.alloc _).trans (L6.trans K7)), .inr ⟨(parse_snd P0.out (parse_snd P1.out (parse_snd P2.out (parse_snd P3.out (parse_snd P4.out (parse_snd P5.out (parse_fst P6))))))), rfl⟩⟩
  obtain ⟨s6, hs6, rfl, rfl⟩ := I6
  simp only [one, List.headD_cons]
  have P6 := Lib.hid P6
  have L7 := L6.trans K7
  have z7 : w.heap.size + 1 ≤ w7.heap.size := by have := L7.size; simpa using this
  go_wp2_with fail
  refine (r_text p r6 _ R6).mono ?_
  rintro e w8 ⟨K8, ⟨t7, r7, q7, P7, rfl, I7, R7⟩ | ⟨P7, rfl⟩⟩
  case inr => exact ⟨rfl, ((Keeps.refl.alloc _).trans (L7.trans K8)), .inr ⟨(parse_snd P0.out (parse_snd P1.out (parse_snd P2.out (parse_snd P3.out (parse_snd P4.out (parse_snd P5.out (parse_snd P6.out P7))))))), rfl⟩⟩
  obtain ⟨s7, hs7, rfl, rfl⟩ := I7
  simp only [one, List.headD_cons]
  have P7 := Lib.hid P7
  have L8 := L7.trans K8
  have z8 : w.heap.size + 1 ≤ w8.heap.size := by have := L8.size; simpa using this
  have hrow := L8.row (heap_alloc_new w (.cells #[.string ByteArray.empty, .int .i64 0, .slice none 0 0, .int .i64 0, .int .i64 0, .string ByteArray.empty, .string ByteArray.empty, .string ByteArray.empty] 67)) (show Off p w.heap.size from fun e => by omega)
  have HR := Lib.hid hrow; clear hrow
  have hi : (Tryz.prog.info? 67).map (·.size) = some 8 := by kernel_rfl
  have HI := Lib.hid hi; clear hi
  have J2 : Is w8 (New (w.heap.size + 1) w8.heap.size) (.list .text) [.slice a2 l2 c2] t2 := is_later I2 (K4.trans (K5.trans (K6.trans (K7.trans K8)))) (show p < w.heap.size + 1 by omega) z2
  have hI : Is w8 (New (w.heap.size + 1) w8.heap.size) shRule [.string s0, .int .i64 n1, .slice a2 l2 c2, .int .i64 n3, .int .i64 n4, .string s5, .string s6, .string s7] ([Tok.text s0.data.toList] ++ ([Tok.num n1] ++ (t2 ++ ([Tok.whole n3] ++ ([Tok.whole n4] ++ ([Tok.text s5.data.toList] ++ ([Tok.text s6.data.toList] ++ [Tok.text s7.data.toList]))))))) := mk_Rule hs0 lo1 hi1 J2 lo3 hi3 lo4 hi4 hs5 hs6 hs7
  have h1 := all_oneCell_toArray hI.oneCell
  have hI2 := is_shut (#[.string s0, .int .i64 n1, .slice a2 l2 c2, .int .i64 n3, .int .i64 n4, .string s5, .string s6, .string s7]) hI
  have hRe := R7.setRow (g := w.heap.size) (by omega) (#[.string s0, .int .i64 n1, .slice a2 l2 c2, .int .i64 n3, .int .i64 n4, .string s5, .string s6, .string s7])
  have HROW := Lib.hid (setRow_heap w8 w.heap.size _ #[.string s0, .int .i64 n1, .slice a2 l2 c2, .int .i64 n3, .int .i64 n4, .string s5, .string s6, .string s7] _ _ HR.out)
  have H1 := Lib.hid h1; clear h1
  go_wp2_with (refine wpList_store_row rfl 67 _ _ rfl w.heap.size 67 _ #[.string s0, .int .i64 n1, .slice a2 l2 c2, .int .i64 n3, .int .i64 n4, .string s5, .string s6, .string s7] rfl rfl HR.out HI.out rfl H1.out ?_)
  refine bodyPost_ret (results_cell_row rfl _ _ w.heap.size _ _ (0, 0) _ rfl HROW.out Tryz.underlying67 rfl HI.out) rfl ?_
  exact ⟨((Keeps.refl.alloc _).trans L8).setRow (Nat.le_refl _) _, .inl ⟨_, _, _, (parse_both P0.out (parse_both P1.out (parse_both P2.out (parse_both P3.out (parse_both P4.out (parse_both P5.out (parse_both P6.out P7.out))))))), rfl, hI2, hRe⟩⟩

set_option maxRecDepth 100000 in
set_option maxHeartbeats 2000000 in
theorem r_command (p : Nat) (bs : List UInt8) (w : World) (h : Re w p B bs) :
    Calls Tryz.prog 87 #[.pointer (some ⟨p, 0, none⟩)] w (RPost w p B shCommand bs agg) := by
  have hp := h.lt
  go_enter Tryz.func87, Tryz.ntmps87
  go_wp2_with fail
  refine (r_number p bs _ (h.alloc _)).mono ?_
  rintro e w1 ⟨K1, ⟨t0, r0, q0, P0, rfl, I0, R0⟩ | ⟨P0, rfl⟩⟩
  case inr => exact ⟨rfl, ((Keeps.refl.alloc _).trans K1), .inr ⟨(parse_fst P0), rfl⟩⟩
  obtain ⟨n0, lo0, hi0, rfl, rfl⟩ := I0
  simp only [one, List.headD_cons]
  have P0 := Lib.hid P0
  have L1 := K1
  have z1 : w.heap.size + 1 ≤ w1.heap.size := by have := L1.size; simpa using this
  go_wp2_with fail
  refine (r_text p r0 _ R0).mono ?_
  rintro e w2 ⟨K2, ⟨t1, r1, q1, P1, rfl, I1, R1⟩ | ⟨P1, rfl⟩⟩
  case inr => exact ⟨rfl, ((Keeps.refl.alloc _).trans (L1.trans K2)), .inr ⟨(parse_snd P0.out (parse_fst P1)), rfl⟩⟩
  obtain ⟨s1, hs1, rfl, rfl⟩ := I1
  simp only [one, List.headD_cons]
  have P1 := Lib.hid P1
  have L2 := L1.trans K2
  have z2 : w.heap.size + 1 ≤ w2.heap.size := by have := L2.size; simpa using this
  go_wp2_with fail
  refine (r_text p r1 _ R1).mono ?_
  rintro e w3 ⟨K3, ⟨t2, r2, q2, P2, rfl, I2, R2⟩ | ⟨P2, rfl⟩⟩
  case inr => exact ⟨rfl, ((Keeps.refl.alloc _).trans (L2.trans K3)), .inr ⟨(parse_snd P0.out (parse_snd P1.out (parse_fst P2))), rfl⟩⟩
  obtain ⟨s2, hs2, rfl, rfl⟩ := I2
  simp only [one, List.headD_cons]
  have P2 := Lib.hid P2
  have L3 := L2.trans K3
  have z3 : w.heap.size + 1 ≤ w3.heap.size := by have := L3.size; simpa using this
  go_wp2_with fail
  refine (r_text p r2 _ R2).mono ?_
  rintro e w4 ⟨K4, ⟨t3, r3, q3, P3, rfl, I3, R3⟩ | ⟨P3, rfl⟩⟩
  case inr => exact ⟨rfl, ((Keeps.refl.alloc _).trans (L3.trans K4)), .inr ⟨(parse_snd P0.out (parse_snd P1.out (parse_snd P2.out (parse_fst P3)))), rfl⟩⟩
  obtain ⟨s3, hs3, rfl, rfl⟩ := I3
  simp only [one, List.headD_cons]
  have P3 := Lib.hid P3
  have L4 := L3.trans K4
  have z4 : w.heap.size + 1 ≤ w4.heap.size := by have := L4.size; simpa using this
  go_wp2_with fail
  refine (r_text p r3 _ R3).mono ?_
  rintro e w5 ⟨K5, ⟨t4, r4, q4, P4, rfl, I4, R4⟩ | ⟨P4, rfl⟩⟩
  case inr => exact ⟨rfl, ((Keeps.refl.alloc _).trans (L4.trans K5)), .inr ⟨(parse_snd P0.out (parse_snd P1.out (parse_snd P2.out (parse_snd P3.out (parse_fst P4))))), rfl⟩⟩
  obtain ⟨s4, hs4, rfl, rfl⟩ := I4
  simp only [one, List.headD_cons]
  have P4 := Lib.hid P4
  have L5 := L4.trans K5
  have z5 : w.heap.size + 1 ≤ w5.heap.size := by have := L5.size; simpa using this
  go_wp2_with fail
  refine (r_text p r4 _ R4).mono ?_
  rintro e w6 ⟨K6, ⟨t5, r5, q5, P5, rfl, I5, R5⟩ | ⟨P5, rfl⟩⟩
  case inr => exact ⟨rfl, ((Keeps.refl.alloc _).trans (L5.trans K6)), .inr ⟨(parse_snd P0.out (parse_snd P1.out (parse_snd P2.out (parse_snd P3.out (parse_snd P4.out (parse_fst P5)))))), rfl⟩⟩
  obtain ⟨s5, hs5, rfl, rfl⟩ := I5
  simp only [one, List.headD_cons]
  have P5 := Lib.hid P5
  have L6 := L5.trans K6
  have z6 : w.heap.size + 1 ≤ w6.heap.size := by have := L6.size; simpa using this
  go_wp2_with fail
  refine (r_listColumn p r5 _ R5).mono ?_
  rintro e w7 ⟨K7, ⟨t6, r6, q6, P6, rfl, I6, R6⟩ | ⟨P6, rfl⟩⟩
  case inr => exact ⟨rfl, ((Keeps.refl.alloc _).trans (L6.trans K7)), .inr ⟨(parse_snd P0.out (parse_snd P1.out (parse_snd P2.out (parse_snd P3.out (parse_snd P4.out (parse_snd P5.out (parse_fst P6))))))), rfl⟩⟩
  obtain ⟨a6, l6, c6, rfl⟩ := I6.list_cells
  simp only [one, List.headD_cons]
  have P6 := Lib.hid P6
  have L7 := L6.trans K7
  have z7 : w.heap.size + 1 ≤ w7.heap.size := by have := L7.size; simpa using this
  go_wp2_with fail
  refine (r_rule p r6 _ R6).mono ?_
  rintro e w8 ⟨K8, ⟨t7, r7, q7, P7, rfl, I7, R7⟩ | ⟨P7, rfl⟩⟩
  case inr => exact ⟨rfl, ((Keeps.refl.alloc _).trans (L7.trans K8)), .inr ⟨(parse_snd P0.out (parse_snd P1.out (parse_snd P2.out (parse_snd P3.out (parse_snd P4.out (parse_snd P5.out (parse_snd P6.out (parse_fst P7)))))))), rfl⟩⟩
  obtain ⟨s7_0, n7_1, a7_2, l7_2, c7_2, n7_3, n7_4, s7_5, s7_6, s7_7, rfl⟩ := cells_Rule I7
  simp only [agg]
  have P7 := Lib.hid P7
  have L8 := L7.trans K8
  have z8 : w.heap.size + 1 ≤ w8.heap.size := by have := L8.size; simpa using this
  go_wp2_with fail
  refine (r_number p r7 _ R7).mono ?_
  rintro e w9 ⟨K9, ⟨t8, r8, q8, P8, rfl, I8, R8⟩ | ⟨P8, rfl⟩⟩
  case inr => exact ⟨rfl, ((Keeps.refl.alloc _).trans (L8.trans K9)), .inr ⟨(parse_snd P0.out (parse_snd P1.out (parse_snd P2.out (parse_snd P3.out (parse_snd P4.out (parse_snd P5.out (parse_snd P6.out (parse_snd P7.out (parse_fst P8))))))))), rfl⟩⟩
  obtain ⟨n8, lo8, hi8, rfl, rfl⟩ := I8
  simp only [one, List.headD_cons]
  have P8 := Lib.hid P8
  have L9 := L8.trans K9
  have z9 : w.heap.size + 1 ≤ w9.heap.size := by have := L9.size; simpa using this
  go_wp2_with fail
  refine (r_truth p r8 _ R8).mono ?_
  rintro e w10 ⟨K10, ⟨t9, r9, q9, P9, rfl, I9, R9⟩ | ⟨P9, rfl⟩⟩
  case inr => exact ⟨rfl, ((Keeps.refl.alloc _).trans (L9.trans K10)), .inr ⟨(parse_snd P0.out (parse_snd P1.out (parse_snd P2.out (parse_snd P3.out (parse_snd P4.out (parse_snd P5.out (parse_snd P6.out (parse_snd P7.out (parse_snd P8.out P9))))))))), rfl⟩⟩
  obtain ⟨b9, rfl, rfl⟩ := I9
  simp only [one, List.headD_cons]
  have P9 := Lib.hid P9
  have L10 := L9.trans K10
  have z10 : w.heap.size + 1 ≤ w10.heap.size := by have := L10.size; simpa using this
  have hrow := L10.row (heap_alloc_new w (.cells #[.int .i64 0, .string ByteArray.empty, .string ByteArray.empty, .string ByteArray.empty, .string ByteArray.empty, .string ByteArray.empty, .slice none 0 0, .string ByteArray.empty, .int .i64 0, .slice none 0 0, .int .i64 0, .int .i64 0, .string ByteArray.empty, .string ByteArray.empty, .string ByteArray.empty, .int .i64 0, .bool false] 70)) (show Off p w.heap.size from fun e => by omega)
  have HR := Lib.hid hrow; clear hrow
  have hi : (Tryz.prog.info? 70).map (·.size) = some 17 := by kernel_rfl
  have HI := Lib.hid hi; clear hi
  have J6 : Is w10 (New (w.heap.size + 1) w10.heap.size) (.list shColumn) [.slice a6 l6 c6] t6 := is_later I6 (K8.trans (K9.trans K10)) (show p < w.heap.size + 1 by omega) z6
  have J7 : Is w10 (New (w.heap.size + 1) w10.heap.size) shRule [.string s7_0, .int .i64 n7_1, .slice a7_2 l7_2 c7_2, .int .i64 n7_3, .int .i64 n7_4, .string s7_5, .string s7_6, .string s7_7] t7 := is_later I7 (K9.trans K10) (show p < w.heap.size + 1 by omega) z7
  have hI : Is w10 (New (w.heap.size + 1) w10.heap.size) shCommand [.int .i64 n0, .string s1, .string s2, .string s3, .string s4, .string s5, .slice a6 l6 c6, .string s7_0, .int .i64 n7_1, .slice a7_2 l7_2 c7_2, .int .i64 n7_3, .int .i64 n7_4, .string s7_5, .string s7_6, .string s7_7, .int .i64 n8, .bool b9] ([Tok.num n0] ++ ([Tok.text s1.data.toList] ++ ([Tok.text s2.data.toList] ++ ([Tok.text s3.data.toList] ++ ([Tok.text s4.data.toList] ++ ([Tok.text s5.data.toList] ++ (t6 ++ (t7 ++ ([Tok.num n8] ++ [Tok.flag b9]))))))))) := mk_Command lo0 hi0 hs1 hs2 hs3 hs4 hs5 J6 J7 lo8 hi8
  have h1 := all_oneCell_toArray hI.oneCell
  have hI2 := is_shut (#[.int .i64 n0, .string s1, .string s2, .string s3, .string s4, .string s5, .slice a6 l6 c6, .string s7_0, .int .i64 n7_1, .slice a7_2 l7_2 c7_2, .int .i64 n7_3, .int .i64 n7_4, .string s7_5, .string s7_6, .string s7_7, .int .i64 n8, .bool b9]) hI
  have hRe := R9.setRow (g := w.heap.size) (by omega) (#[.int .i64 n0, .string s1, .string s2, .string s3, .string s4, .string s5, .slice a6 l6 c6, .string s7_0, .int .i64 n7_1, .slice a7_2 l7_2 c7_2, .int .i64 n7_3, .int .i64 n7_4, .string s7_5, .string s7_6, .string s7_7, .int .i64 n8, .bool b9])
  have HROW := Lib.hid (setRow_heap w10 w.heap.size _ #[.int .i64 n0, .string s1, .string s2, .string s3, .string s4, .string s5, .slice a6 l6 c6, .string s7_0, .int .i64 n7_1, .slice a7_2 l7_2 c7_2, .int .i64 n7_3, .int .i64 n7_4, .string s7_5, .string s7_6, .string s7_7, .int .i64 n8, .bool b9] _ _ HR.out)
  have H1 := Lib.hid h1; clear h1
  go_wp2_with (refine wpList_store_row rfl 70 _ _ rfl w.heap.size 70 _ #[.int .i64 n0, .string s1, .string s2, .string s3, .string s4, .string s5, .slice a6 l6 c6, .string s7_0, .int .i64 n7_1, .slice a7_2 l7_2 c7_2, .int .i64 n7_3, .int .i64 n7_4, .string s7_5, .string s7_6, .string s7_7, .int .i64 n8, .bool b9] rfl rfl HR.out HI.out rfl H1.out ?_)
  refine bodyPost_ret (results_cell_row rfl _ _ w.heap.size _ _ (0, 0) _ rfl HROW.out Tryz.underlying70 rfl HI.out) rfl ?_
  exact ⟨((Keeps.refl.alloc _).trans L10).setRow (Nat.le_refl _) _, .inl ⟨_, _, _, (parse_both P0.out (parse_both P1.out (parse_both P2.out (parse_both P3.out (parse_both P4.out (parse_both P5.out (parse_both P6.out (parse_both P7.out (parse_both P8.out P9.out))))))))), rfl, hI2, hRe⟩⟩

set_option maxRecDepth 100000 in
set_option maxHeartbeats 2000000 in
theorem r_op (p : Nat) (bs : List UInt8) (w : World) (h : Re w p B bs) :
    Calls Tryz.prog 58 #[.pointer (some ⟨p, 0, none⟩)] w (RPost w p B shOp bs agg) := by
  have hp := h.lt
  go_enter Tryz.func58, Tryz.ntmps58
  go_wp2_with fail
  refine (r_number p bs _ (h.alloc _)).mono ?_
  rintro e w1 ⟨K1, ⟨t0, r0, q0, P0, rfl, I0, R0⟩ | ⟨P0, rfl⟩⟩
  case inr => exact ⟨rfl, ((Keeps.refl.alloc _).trans K1), .inr ⟨(parse_fst P0), rfl⟩⟩
  obtain ⟨n0, lo0, hi0, rfl, rfl⟩ := I0
  simp only [one, List.headD_cons]
  have P0 := Lib.hid P0
  have L1 := K1
  have z1 : w.heap.size + 1 ≤ w1.heap.size := by have := L1.size; simpa using this
  go_wp2_with fail
  refine (r_number p r0 _ R0).mono ?_
  rintro e w2 ⟨K2, ⟨t1, r1, q1, P1, rfl, I1, R1⟩ | ⟨P1, rfl⟩⟩
  case inr => exact ⟨rfl, ((Keeps.refl.alloc _).trans (L1.trans K2)), .inr ⟨(parse_snd P0.out (parse_fst P1)), rfl⟩⟩
  obtain ⟨n1, lo1, hi1, rfl, rfl⟩ := I1
  simp only [one, List.headD_cons]
  have P1 := Lib.hid P1
  have L2 := L1.trans K2
  have z2 : w.heap.size + 1 ≤ w2.heap.size := by have := L2.size; simpa using this
  go_wp2_with fail
  refine (r_number p r1 _ R1).mono ?_
  rintro e w3 ⟨K3, ⟨t2, r2, q2, P2, rfl, I2, R2⟩ | ⟨P2, rfl⟩⟩
  case inr => exact ⟨rfl, ((Keeps.refl.alloc _).trans (L2.trans K3)), .inr ⟨(parse_snd P0.out (parse_snd P1.out (parse_fst P2))), rfl⟩⟩
  obtain ⟨n2, lo2, hi2, rfl, rfl⟩ := I2
  simp only [one, List.headD_cons]
  have P2 := Lib.hid P2
  have L3 := L2.trans K3
  have z3 : w.heap.size + 1 ≤ w3.heap.size := by have := L3.size; simpa using this
  go_wp2_with fail
  refine (r_command p r2 _ R2).mono ?_
  rintro e w4 ⟨K4, ⟨t3, r3, q3, P3, rfl, I3, R3⟩ | ⟨P3, rfl⟩⟩
  case inr => exact ⟨rfl, ((Keeps.refl.alloc _).trans (L3.trans K4)), .inr ⟨(parse_snd P0.out (parse_snd P1.out (parse_snd P2.out (parse_fst P3)))), rfl⟩⟩
  obtain ⟨n3_0, s3_1, s3_2, s3_3, s3_4, s3_5, a3_6, l3_6, c3_6, s3_7_0, n3_7_1, a3_7_2, l3_7_2, c3_7_2, n3_7_3, n3_7_4, s3_7_5, s3_7_6, s3_7_7, n3_8, b3_9, rfl⟩ := cells_Command I3
  simp only [agg]
  have P3 := Lib.hid P3
  have L4 := L3.trans K4
  have z4 : w.heap.size + 1 ≤ w4.heap.size := by have := L4.size; simpa using this
  go_wp2_with fail
  refine (r_number p r3 _ R3).mono ?_
  rintro e w5 ⟨K5, ⟨t4, r4, q4, P4, rfl, I4, R4⟩ | ⟨P4, rfl⟩⟩
  case inr => exact ⟨rfl, ((Keeps.refl.alloc _).trans (L4.trans K5)), .inr ⟨(parse_snd P0.out (parse_snd P1.out (parse_snd P2.out (parse_snd P3.out (parse_fst P4))))), rfl⟩⟩
  obtain ⟨n4, lo4, hi4, rfl, rfl⟩ := I4
  simp only [one, List.headD_cons]
  have P4 := Lib.hid P4
  have L5 := L4.trans K5
  have z5 : w.heap.size + 1 ≤ w5.heap.size := by have := L5.size; simpa using this
  go_wp2_with fail
  refine (r_number p r4 _ R4).mono ?_
  rintro e w6 ⟨K6, ⟨t5, r5, q5, P5, rfl, I5, R5⟩ | ⟨P5, rfl⟩⟩
  case inr => exact ⟨rfl, ((Keeps.refl.alloc _).trans (L5.trans K6)), .inr ⟨(parse_snd P0.out (parse_snd P1.out (parse_snd P2.out (parse_snd P3.out (parse_snd P4.out (parse_fst P5)))))), rfl⟩⟩
  obtain ⟨n5, lo5, hi5, rfl, rfl⟩ := I5
  simp only [one, List.headD_cons]
  have P5 := Lib.hid P5
  have L6 := L5.trans K6
  have z6 : w.heap.size + 1 ≤ w6.heap.size := by have := L6.size; simpa using this
  go_wp2_with fail
  refine (r_number p r5 _ R5).mono ?_
  rintro e w7 ⟨K7, ⟨t6, r6, q6, P6, rfl, I6, R6⟩ | ⟨P6, rfl⟩⟩
  case inr => exact ⟨rfl, ((Keeps.refl.alloc _).trans (L6.trans K7)), .inr ⟨(parse_snd P0.out (parse_snd P1.out (parse_snd P2.out (parse_snd P3.out (parse_snd P4.out (parse_snd P5.out P6)))))), rfl⟩⟩
  obtain ⟨n6, lo6, hi6, rfl, rfl⟩ := I6
  simp only [one, List.headD_cons]
  have P6 := Lib.hid P6
  have L7 := L6.trans K7
  have z7 : w.heap.size + 1 ≤ w7.heap.size := by have := L7.size; simpa using this
  have hrow := L7.row (heap_alloc_new w (.cells #[.int .i64 0, .int .i64 0, .int .i64 0, .int .i64 0, .string ByteArray.empty, .string ByteArray.empty, .string ByteArray.empty, .string ByteArray.empty, .string ByteArray.empty, .slice none 0 0, .string ByteArray.empty, .int .i64 0, .slice none 0 0, .int .i64 0, .int .i64 0, .string ByteArray.empty, .string ByteArray.empty, .string ByteArray.empty, .int .i64 0, .bool false, .int .i64 0, .int .i64 0, .int .i64 0] 72)) (show Off p w.heap.size from fun e => by omega)
  have HR := Lib.hid hrow; clear hrow
  have hi : (Tryz.prog.info? 72).map (·.size) = some 23 := by kernel_rfl
  have HI := Lib.hid hi; clear hi
  have J3 : Is w7 (New (w.heap.size + 1) w7.heap.size) shCommand [.int .i64 n3_0, .string s3_1, .string s3_2, .string s3_3, .string s3_4, .string s3_5, .slice a3_6 l3_6 c3_6, .string s3_7_0, .int .i64 n3_7_1, .slice a3_7_2 l3_7_2 c3_7_2, .int .i64 n3_7_3, .int .i64 n3_7_4, .string s3_7_5, .string s3_7_6, .string s3_7_7, .int .i64 n3_8, .bool b3_9] t3 := is_later I3 (K5.trans (K6.trans K7)) (show p < w.heap.size + 1 by omega) z3
  have hI : Is w7 (New (w.heap.size + 1) w7.heap.size) shOp [.int .i64 n0, .int .i64 n1, .int .i64 n2, .int .i64 n3_0, .string s3_1, .string s3_2, .string s3_3, .string s3_4, .string s3_5, .slice a3_6 l3_6 c3_6, .string s3_7_0, .int .i64 n3_7_1, .slice a3_7_2 l3_7_2 c3_7_2, .int .i64 n3_7_3, .int .i64 n3_7_4, .string s3_7_5, .string s3_7_6, .string s3_7_7, .int .i64 n3_8, .bool b3_9, .int .i64 n4, .int .i64 n5, .int .i64 n6] ([Tok.num n0] ++ ([Tok.num n1] ++ ([Tok.num n2] ++ (t3 ++ ([Tok.num n4] ++ ([Tok.num n5] ++ [Tok.num n6])))))) := mk_Op lo0 hi0 lo1 hi1 lo2 hi2 J3 lo4 hi4 lo5 hi5 lo6 hi6
  have h1 := all_oneCell_toArray hI.oneCell
  have hI2 := is_shut (#[.int .i64 n0, .int .i64 n1, .int .i64 n2, .int .i64 n3_0, .string s3_1, .string s3_2, .string s3_3, .string s3_4, .string s3_5, .slice a3_6 l3_6 c3_6, .string s3_7_0, .int .i64 n3_7_1, .slice a3_7_2 l3_7_2 c3_7_2, .int .i64 n3_7_3, .int .i64 n3_7_4, .string s3_7_5, .string s3_7_6, .string s3_7_7, .int .i64 n3_8, .bool b3_9, .int .i64 n4, .int .i64 n5, .int .i64 n6]) hI
  have hRe := R6.setRow (g := w.heap.size) (by omega) (#[.int .i64 n0, .int .i64 n1, .int .i64 n2, .int .i64 n3_0, .string s3_1, .string s3_2, .string s3_3, .string s3_4, .string s3_5, .slice a3_6 l3_6 c3_6, .string s3_7_0, .int .i64 n3_7_1, .slice a3_7_2 l3_7_2 c3_7_2, .int .i64 n3_7_3, .int .i64 n3_7_4, .string s3_7_5, .string s3_7_6, .string s3_7_7, .int .i64 n3_8, .bool b3_9, .int .i64 n4, .int .i64 n5, .int .i64 n6])
  have HROW := Lib.hid (setRow_heap w7 w.heap.size _ #[.int .i64 n0, .int .i64 n1, .int .i64 n2, .int .i64 n3_0, .string s3_1, .string s3_2, .string s3_3, .string s3_4, .string s3_5, .slice a3_6 l3_6 c3_6, .string s3_7_0, .int .i64 n3_7_1, .slice a3_7_2 l3_7_2 c3_7_2, .int .i64 n3_7_3, .int .i64 n3_7_4, .string s3_7_5, .string s3_7_6, .string s3_7_7, .int .i64 n3_8, .bool b3_9, .int .i64 n4, .int .i64 n5, .int .i64 n6] _ _ HR.out)
  have H1 := Lib.hid h1; clear h1
  go_wp2_with (refine wpList_store_row rfl 72 _ _ rfl w.heap.size 72 _ #[.int .i64 n0, .int .i64 n1, .int .i64 n2, .int .i64 n3_0, .string s3_1, .string s3_2, .string s3_3, .string s3_4, .string s3_5, .slice a3_6 l3_6 c3_6, .string s3_7_0, .int .i64 n3_7_1, .slice a3_7_2 l3_7_2 c3_7_2, .int .i64 n3_7_3, .int .i64 n3_7_4, .string s3_7_5, .string s3_7_6, .string s3_7_7, .int .i64 n3_8, .bool b3_9, .int .i64 n4, .int .i64 n5, .int .i64 n6] rfl rfl HR.out HI.out rfl H1.out ?_)
  refine bodyPost_ret (results_cell_row rfl _ _ w.heap.size _ _ (0, 0) _ rfl HROW.out Tryz.underlying72 rfl HI.out) rfl ?_
  exact ⟨((Keeps.refl.alloc _).trans L7).setRow (Nat.le_refl _) _, .inl ⟨_, _, _, (parse_both P0.out (parse_both P1.out (parse_both P2.out (parse_both P3.out (parse_both P4.out (parse_both P5.out P6.out)))))), rfl, hI2, hRe⟩⟩

end Go.Proofs.YtbhpbiimfcdgaaaGreat
