/-
  The program's reader, by contract: lists of texts and numbers; small things (made by wip/gen_wire.py)
-/
import Derived.Test.YtbhpbiimfcdgaaaGreatWireQ
namespace Go.Proofs.YtbhpbiimfcdgaaaGreat
open Go.RowKit
set_option linter.unusedVariables false

variable {B : Nat}

set_option maxRecDepth 100000 in
set_option maxHeartbeats 2000000 in
theorem r_listText (p : Nat) (bs : List UInt8) (w : World) (h : Re w p B bs) :
    Calls Tryz.prog 36 #[.pointer (some ⟨p, 0, none⟩), .func (.func 37) #[] #[]] w (RPost w p B (.list .text) bs one) := by
  obtain ⟨i0, hi, hz0, hz1, hz2⟩ := info_parts info_string
  have hp := h.lt
  go_enter Tryz.func36, Tryz.ntmps36
  go_wp2_with fail
  refine (r_count p 4096 bs w h (by omega)).mono ?_
  rintro e w0 ⟨K0, ⟨n, r0, P0, rfl, R0⟩ | ⟨P0, rfl⟩⟩
  case inr => exact ⟨rfl, K0, .inr ⟨parse_list_none P0, rfl⟩⟩
  have hn := (pNum_some P0).1
  have P0 := Lib.hid P0
  go_wp2_with fail
  go_loopw [5, 8] (fun o i wr => ∃ (k : Nat) (tss : List (List Tok)) (r : List UInt8) (o' : Value), o' = o ∧ k ≤ n ∧ i = .int .i64 k ∧ parseN (parse .text) k r0 = some (tss.flatten, r) ∧ Row wr w.heap.size 9 .text o' k tss ∧ Re wr p B r ∧ Keeps (Off p) w wr) (fun _ i _ => n - (intOf i).toNat)
  case atStart => exact ⟨0, [], r0, _, rfl, Nat.zero_le _, rfl, rfl, Row.nil _ _ _ _, R0, K0⟩
  case round =>
    obtain ⟨k, tss, r, o', rfl, hk, rfl, hP, hRow, hR, hK⟩ := hrel
    have hP := Lib.hid hP
    by_cases hlt : k < n
    · have hwr := hK.size
      go_wp2_with fail
      refine (r_text p r wr hR).mono ?_
      rintro e w1 ⟨K1, ⟨t, r1, x, P1, rfl, I1, R1⟩ | ⟨P1, rfl⟩⟩
      case inr => exact ⟨rfl, hK.trans K1, .inr ⟨parse_list_fail P0.out (parseN_fail hP.out P1 hlt), rfl⟩⟩
      have P1 := Lib.hid P1
      have I0 := I1
      obtain ⟨s, hs, rfl, rfl⟩ := I0
      simp only [one, List.headD_cons]
      have hI1 := Lib.hid I1.oneCell
      obtain ⟨xss, x1, x2, x3, x4, x5⟩ := hRow
      have hob := fun j hj => (World.ownsRow.lt x3 j hj).1
      have y3 := own_off (own_off x3 K1 hp) (Keeps.refl.alloc (.cells #[.string s] 9)) hp
      have X1 := Lib.hid x1; clear x1
      have X2 := Lib.hid x2; clear x2
      have X4 := Lib.hid x4; clear x4
      have X5 := Lib.hid x5; clear x5
      have HOB := Lib.hid hob; clear hob
      go_wp2_with (at_builtin; refine wpList_append_own_at _ rfl _ _ 28 rfl w.heap.size 9 i0 _ 1 16 Tryz.underlying28 hi hz0 hz1 hz2 rfl (by decide) _ _ _ rfl y3 ⟨_, 0, none⟩ 1 1 [.string s] rfl rfl ?c1 ?c2 ?c3 ?c4 ?c5 ?_)
      case c1 => exact fun j u hu => cell_fresh _ _ _ j u hu
      case c2 => exact hI1.out
      case c3 => unfold maxLen; omega
      case c4 => omega
      case c5 => have := K1.size; simp; omega
      intro o3 w3 hown3 hgrow _ hat3
      have hRow3 := Row.more _ X1.out X2.out x3 X4.out X5.out K1 hp hwr I1 hown3 hgrow hat3
      have hR3 : Re w3 p B r1 := (R1.alloc _).kept (Keeps.of_grown (S := fun b => some b ≠ o'.ownBlock) hgrow fun k hk h => h hk.symm) (fun e => by have := HOB.out p e.symm; omega) (fun k hk e => by have := HOB.out k e.symm; have := hR.1; omega)
      have hK3 : Keeps (Off p) w w3 := keeps_grown (hK.trans (K1.alloc _)) hgrow HOB.out
      have hP3 := parseN_step hP.out P1.out
      rw [show tss.flatten ++ [Tok.text s.data.toList] = (tss ++ [[Tok.text s.data.toList]]).flatten by simp] at hP3
      have HP3 := Lib.hid hP3; clear hP3
      clear hown3 hat3
      go_wp2_with fail
      go_roundw
      case rel => exact ⟨k + 1, _, r1, o3, rfl, by omega, by go_num, HP3.out, hRow3, hR3, hK3⟩
      case measure => simp [intOf]; omega
    · have hkn : k = n := by omega
      obtain ⟨a', c', ho, hI⟩ := hRow.list (by omega) (by decide)
      have hP2 := parse_list_some P0.out (hkn ▸ hP.out)
      have HKN := Lib.hid hkn; clear hkn
      have HO := Lib.hid ho; clear ho
      have HP2 := Lib.hid hP2; clear hP2
      go_wp2_with fail
      go_ret
      exact ⟨hK, .inl ⟨_, _, _, HP2.out, rfl, by rw [← HKN.out]; exact hI, hR⟩⟩

set_option maxRecDepth 100000 in
set_option maxHeartbeats 2000000 in
theorem r_column (p : Nat) (bs : List UInt8) (w : World) (h : Re w p B bs) :
    Calls Tryz.prog 73 #[.pointer (some ⟨p, 0, none⟩)] w (RPost w p B shColumn bs agg) := by
  have hp := h.lt
  go_enter Tryz.func73, Tryz.ntmps73
  go_wp2_with fail
  refine (r_text p bs _ (h.alloc _)).mono ?_
  rintro e w1 ⟨K1, ⟨t0, r0, q0, P0, rfl, I0, R0⟩ | ⟨P0, rfl⟩⟩
  case inr => exact ⟨rfl, ((Keeps.refl.alloc _).trans K1), .inr ⟨(parse_fst P0), rfl⟩⟩
  obtain ⟨s0, hs0, rfl, rfl⟩ := I0
  simp only [one, List.headD_cons]
  have P0 := Lib.hid P0
  have L1 := K1
  have z1 : w.heap.size + 1 ≤ w1.heap.size := by have := L1.size; simpa using this
  go_wp2_with fail
  refine (r_number p r0 _ R0).mono ?_
  rintro e w2 ⟨K2, ⟨t1, r1, q1, P1, rfl, I1, R1⟩ | ⟨P1, rfl⟩⟩
  case inr => exact ⟨rfl, ((Keeps.refl.alloc _).trans (L1.trans K2)), .inr ⟨(parse_snd P0.out (parse_fst P1)), rfl⟩⟩
  obtain ⟨n1, lo1, hi1, rfl, rfl⟩ := I1
  simp only [one, List.headD_cons]
  have P1 := Lib.hid P1
  have L2 := L1.trans K2
  have z2 : w.heap.size + 1 ≤ w2.heap.size := by have := L2.size; simpa using this
  go_wp2_with fail
  refine (r_truth p r1 _ R1).mono ?_
  rintro e w3 ⟨K3, ⟨t2, r2, q2, P2, rfl, I2, R2⟩ | ⟨P2, rfl⟩⟩
  case inr => exact ⟨rfl, ((Keeps.refl.alloc _).trans (L2.trans K3)), .inr ⟨(parse_snd P0.out (parse_snd P1.out P2)), rfl⟩⟩
  obtain ⟨b2, rfl, rfl⟩ := I2
  simp only [one, List.headD_cons]
  have P2 := Lib.hid P2
  have L3 := L2.trans K3
  have z3 : w.heap.size + 1 ≤ w3.heap.size := by have := L3.size; simpa using this
  have hrow := L3.row (heap_alloc_new w (.cells #[.string ByteArray.empty, .int .i64 0, .bool false] 162)) (show Off p w.heap.size from fun e => by omega)
  have HR := Lib.hid hrow; clear hrow
  have hi : (Tryz.prog.info? 162).map (·.size) = some 3 := by kernel_rfl
  have HI := Lib.hid hi; clear hi
  have hI : Is w3 (New (w.heap.size + 1) w3.heap.size) shColumn [.string s0, .int .i64 n1, .bool b2] ([Tok.text s0.data.toList] ++ ([Tok.num n1] ++ [Tok.flag b2])) := mk_Column hs0 lo1 hi1
  have h1 := all_oneCell_toArray hI.oneCell
  have hI2 := is_shut (#[.string s0, .int .i64 n1, .bool b2]) hI
  have hRe := R2.setRow (g := w.heap.size) (by omega) (#[.string s0, .int .i64 n1, .bool b2])
  have HROW := Lib.hid (setRow_heap w3 w.heap.size _ #[.string s0, .int .i64 n1, .bool b2] _ _ HR.out)
  have H1 := Lib.hid h1; clear h1
  go_wp2_with (refine wpList_store_row rfl 162 _ _ rfl w.heap.size 162 _ #[.string s0, .int .i64 n1, .bool b2] rfl rfl HR.out HI.out rfl H1.out ?_)
  refine bodyPost_ret (results_cell_row rfl _ _ w.heap.size _ _ (0, 0) _ rfl HROW.out Tryz.underlying162 rfl HI.out) rfl ?_
  exact ⟨((Keeps.refl.alloc _).trans L3).setRow (Nat.le_refl _) _, .inl ⟨_, _, _, (parse_both P0.out (parse_both P1.out P2.out)), rfl, hI2, hRe⟩⟩

set_option maxRecDepth 100000 in
set_option maxHeartbeats 2000000 in
theorem r_schema (p : Nat) (bs : List UInt8) (w : World) (h : Re w p B bs) :
    Calls Tryz.prog 33 #[.pointer (some ⟨p, 0, none⟩)] w (RPost w p B shSchema bs agg) := by
  have hp := h.lt
  go_enter Tryz.func33, Tryz.ntmps33
  go_wp2_with fail
  refine (r_text p bs _ (h.alloc _)).mono ?_
  rintro e w1 ⟨K1, ⟨t0, r0, q0, P0, rfl, I0, R0⟩ | ⟨P0, rfl⟩⟩
  case inr => exact ⟨rfl, ((Keeps.refl.alloc _).trans K1), .inr ⟨(parse_fst P0), rfl⟩⟩
  obtain ⟨s0, hs0, rfl, rfl⟩ := I0
  simp only [one, List.headD_cons]
  have P0 := Lib.hid P0
  have L1 := K1
  have z1 : w.heap.size + 1 ≤ w1.heap.size := by have := L1.size; simpa using this
  go_wp2_with fail
  refine (r_text p r0 _ R0).mono ?_
  rintro e w2 ⟨K2, ⟨t1, r1, q1, P1, rfl, I1, R1⟩ | ⟨P1, rfl⟩⟩
  case inr => exact ⟨rfl, ((Keeps.refl.alloc _).trans (L1.trans K2)), .inr ⟨(parse_snd P0.out P1), rfl⟩⟩
  obtain ⟨s1, hs1, rfl, rfl⟩ := I1
  simp only [one, List.headD_cons]
  have P1 := Lib.hid P1
  have L2 := L1.trans K2
  have z2 : w.heap.size + 1 ≤ w2.heap.size := by have := L2.size; simpa using this
  have hrow := L2.row (heap_alloc_new w (.cells #[.string ByteArray.empty, .string ByteArray.empty] 98)) (show Off p w.heap.size from fun e => by omega)
  have HR := Lib.hid hrow; clear hrow
  have hi : (Tryz.prog.info? 98).map (·.size) = some 2 := by kernel_rfl
  have HI := Lib.hid hi; clear hi
  have hI : Is w2 (New (w.heap.size + 1) w2.heap.size) shSchema [.string s0, .string s1] ([Tok.text s0.data.toList] ++ [Tok.text s1.data.toList]) := mk_Schema hs0 hs1
  have h1 := all_oneCell_toArray hI.oneCell
  have hI2 := is_shut (#[.string s0, .string s1]) hI
  have hRe := R1.setRow (g := w.heap.size) (by omega) (#[.string s0, .string s1])
  have HROW := Lib.hid (setRow_heap w2 w.heap.size _ #[.string s0, .string s1] _ _ HR.out)
  have H1 := Lib.hid h1; clear h1
  go_wp2_with (refine wpList_store_row rfl 98 _ _ rfl w.heap.size 98 _ #[.string s0, .string s1] rfl rfl HR.out HI.out rfl H1.out ?_)
  refine bodyPost_ret (results_cell_row rfl _ _ w.heap.size _ _ (0, 0) _ rfl HROW.out Tryz.underlying98 rfl HI.out) rfl ?_
  exact ⟨((Keeps.refl.alloc _).trans L2).setRow (Nat.le_refl _) _, .inl ⟨_, _, _, (parse_both P0.out P1.out), rfl, hI2, hRe⟩⟩

set_option maxRecDepth 100000 in
set_option maxHeartbeats 2000000 in
theorem r_member (p : Nat) (bs : List UInt8) (w : World) (h : Re w p B bs) :
    Calls Tryz.prog 39 #[.pointer (some ⟨p, 0, none⟩)] w (RPost w p B shMember bs agg) := by
  have hp := h.lt
  go_enter Tryz.func39, Tryz.ntmps39
  go_wp2_with fail
  refine (r_text p bs _ (h.alloc _)).mono ?_
  rintro e w1 ⟨K1, ⟨t0, r0, q0, P0, rfl, I0, R0⟩ | ⟨P0, rfl⟩⟩
  case inr => exact ⟨rfl, ((Keeps.refl.alloc _).trans K1), .inr ⟨(parse_fst P0), rfl⟩⟩
  obtain ⟨s0, hs0, rfl, rfl⟩ := I0
  simp only [one, List.headD_cons]
  have P0 := Lib.hid P0
  have L1 := K1
  have z1 : w.heap.size + 1 ≤ w1.heap.size := by have := L1.size; simpa using this
  go_wp2_with fail
  refine (r_text p r0 _ R0).mono ?_
  rintro e w2 ⟨K2, ⟨t1, r1, q1, P1, rfl, I1, R1⟩ | ⟨P1, rfl⟩⟩
  case inr => exact ⟨rfl, ((Keeps.refl.alloc _).trans (L1.trans K2)), .inr ⟨(parse_snd P0.out P1), rfl⟩⟩
  obtain ⟨s1, hs1, rfl, rfl⟩ := I1
  simp only [one, List.headD_cons]
  have P1 := Lib.hid P1
  have L2 := L1.trans K2
  have z2 : w.heap.size + 1 ≤ w2.heap.size := by have := L2.size; simpa using this
  have hrow := L2.row (heap_alloc_new w (.cells #[.string ByteArray.empty, .string ByteArray.empty] 112)) (show Off p w.heap.size from fun e => by omega)
  have HR := Lib.hid hrow; clear hrow
  have hi : (Tryz.prog.info? 112).map (·.size) = some 2 := by kernel_rfl
  have HI := Lib.hid hi; clear hi
  have hI : Is w2 (New (w.heap.size + 1) w2.heap.size) shMember [.string s0, .string s1] ([Tok.text s0.data.toList] ++ [Tok.text s1.data.toList]) := mk_Member hs0 hs1
  have h1 := all_oneCell_toArray hI.oneCell
  have hI2 := is_shut (#[.string s0, .string s1]) hI
  have hRe := R1.setRow (g := w.heap.size) (by omega) (#[.string s0, .string s1])
  have HROW := Lib.hid (setRow_heap w2 w.heap.size _ #[.string s0, .string s1] _ _ HR.out)
  have H1 := Lib.hid h1; clear h1
  go_wp2_with (refine wpList_store_row rfl 112 _ _ rfl w.heap.size 112 _ #[.string s0, .string s1] rfl rfl HR.out HI.out rfl H1.out ?_)
  refine bodyPost_ret (results_cell_row rfl _ _ w.heap.size _ _ (0, 0) _ rfl HROW.out Tryz.underlying112 rfl HI.out) rfl ?_
  exact ⟨((Keeps.refl.alloc _).trans L2).setRow (Nat.le_refl _) _, .inl ⟨_, _, _, (parse_both P0.out P1.out), rfl, hI2, hRe⟩⟩

set_option maxRecDepth 100000 in
set_option maxHeartbeats 2000000 in
theorem r_grant (p : Nat) (bs : List UInt8) (w : World) (h : Re w p B bs) :
    Calls Tryz.prog 41 #[.pointer (some ⟨p, 0, none⟩)] w (RPost w p B shGrant bs agg) := by
  have hp := h.lt
  go_enter Tryz.func41, Tryz.ntmps41
  go_wp2_with fail
  refine (r_text p bs _ (h.alloc _)).mono ?_
  rintro e w1 ⟨K1, ⟨t0, r0, q0, P0, rfl, I0, R0⟩ | ⟨P0, rfl⟩⟩
  case inr => exact ⟨rfl, ((Keeps.refl.alloc _).trans K1), .inr ⟨(parse_fst P0), rfl⟩⟩
  obtain ⟨s0, hs0, rfl, rfl⟩ := I0
  simp only [one, List.headD_cons]
  have P0 := Lib.hid P0
  have L1 := K1
  have z1 : w.heap.size + 1 ≤ w1.heap.size := by have := L1.size; simpa using this
  go_wp2_with fail
  refine (r_text p r0 _ R0).mono ?_
  rintro e w2 ⟨K2, ⟨t1, r1, q1, P1, rfl, I1, R1⟩ | ⟨P1, rfl⟩⟩
  case inr => exact ⟨rfl, ((Keeps.refl.alloc _).trans (L1.trans K2)), .inr ⟨(parse_snd P0.out (parse_fst P1)), rfl⟩⟩
  obtain ⟨s1, hs1, rfl, rfl⟩ := I1
  simp only [one, List.headD_cons]
  have P1 := Lib.hid P1
  have L2 := L1.trans K2
  have z2 : w.heap.size + 1 ≤ w2.heap.size := by have := L2.size; simpa using this
  go_wp2_with fail
  refine (r_number p r1 _ R1).mono ?_
  rintro e w3 ⟨K3, ⟨t2, r2, q2, P2, rfl, I2, R2⟩ | ⟨P2, rfl⟩⟩
  case inr => exact ⟨rfl, ((Keeps.refl.alloc _).trans (L2.trans K3)), .inr ⟨(parse_snd P0.out (parse_snd P1.out (parse_fst P2))), rfl⟩⟩
  obtain ⟨n2, lo2, hi2, rfl, rfl⟩ := I2
  simp only [one, List.headD_cons]
  have P2 := Lib.hid P2
  have L3 := L2.trans K3
  have z3 : w.heap.size + 1 ≤ w3.heap.size := by have := L3.size; simpa using this
  go_wp2_with fail
  refine (r_text p r2 _ R2).mono ?_
  rintro e w4 ⟨K4, ⟨t3, r3, q3, P3, rfl, I3, R3⟩ | ⟨P3, rfl⟩⟩
  case inr => exact ⟨rfl, ((Keeps.refl.alloc _).trans (L3.trans K4)), .inr ⟨(parse_snd P0.out (parse_snd P1.out (parse_snd P2.out (parse_fst P3)))), rfl⟩⟩
  obtain ⟨s3, hs3, rfl, rfl⟩ := I3
  simp only [one, List.headD_cons]
  have P3 := Lib.hid P3
  have L4 := L3.trans K4
  have z4 : w.heap.size + 1 ≤ w4.heap.size := by have := L4.size; simpa using this
  go_wp2_with fail
  refine (r_text p r3 _ R3).mono ?_
  rintro e w5 ⟨K5, ⟨t4, r4, q4, P4, rfl, I4, R4⟩ | ⟨P4, rfl⟩⟩
  case inr => exact ⟨rfl, ((Keeps.refl.alloc _).trans (L4.trans K5)), .inr ⟨(parse_snd P0.out (parse_snd P1.out (parse_snd P2.out (parse_snd P3.out (parse_fst P4))))), rfl⟩⟩
  obtain ⟨s4, hs4, rfl, rfl⟩ := I4
  simp only [one, List.headD_cons]
  have P4 := Lib.hid P4
  have L5 := L4.trans K5
  have z5 : w.heap.size + 1 ≤ w5.heap.size := by have := L5.size; simpa using this
  go_wp2_with fail
  refine (r_truth p r4 _ R4).mono ?_
  rintro e w6 ⟨K6, ⟨t5, r5, q5, P5, rfl, I5, R5⟩ | ⟨P5, rfl⟩⟩
  case inr => exact ⟨rfl, ((Keeps.refl.alloc _).trans (L5.trans K6)), .inr ⟨(parse_snd P0.out (parse_snd P1.out (parse_snd P2.out (parse_snd P3.out (parse_snd P4.out P5))))), rfl⟩⟩
  obtain ⟨b5, rfl, rfl⟩ := I5
  simp only [one, List.headD_cons]
  have P5 := Lib.hid P5
  have L6 := L5.trans K6
  have z6 : w.heap.size + 1 ≤ w6.heap.size := by have := L6.size; simpa using this
  have hrow := L6.row (heap_alloc_new w (.cells #[.string ByteArray.empty, .string ByteArray.empty, .int .i64 0, .string ByteArray.empty, .string ByteArray.empty, .bool false] 117)) (show Off p w.heap.size from fun e => by omega)
  have HR := Lib.hid hrow; clear hrow
  have hi : (Tryz.prog.info? 117).map (·.size) = some 6 := by kernel_rfl
  have HI := Lib.hid hi; clear hi
  have hI : Is w6 (New (w.heap.size + 1) w6.heap.size) shGrant [.string s0, .string s1, .int .i64 n2, .string s3, .string s4, .bool b5] ([Tok.text s0.data.toList] ++ ([Tok.text s1.data.toList] ++ ([Tok.num n2] ++ ([Tok.text s3.data.toList] ++ ([Tok.text s4.data.toList] ++ [Tok.flag b5]))))) := mk_Grant hs0 hs1 lo2 hi2 hs3 hs4
  have h1 := all_oneCell_toArray hI.oneCell
  have hI2 := is_shut (#[.string s0, .string s1, .int .i64 n2, .string s3, .string s4, .bool b5]) hI
  have hRe := R5.setRow (g := w.heap.size) (by omega) (#[.string s0, .string s1, .int .i64 n2, .string s3, .string s4, .bool b5])
  have HROW := Lib.hid (setRow_heap w6 w.heap.size _ #[.string s0, .string s1, .int .i64 n2, .string s3, .string s4, .bool b5] _ _ HR.out)
  have H1 := Lib.hid h1; clear h1
  go_wp2_with (refine wpList_store_row rfl 117 _ _ rfl w.heap.size 117 _ #[.string s0, .string s1, .int .i64 n2, .string s3, .string s4, .bool b5] rfl rfl HR.out HI.out rfl H1.out ?_)
  refine bodyPost_ret (results_cell_row rfl _ _ w.heap.size _ _ (0, 0) _ rfl HROW.out Tryz.underlying117 rfl HI.out) rfl ?_
  exact ⟨((Keeps.refl.alloc _).trans L6).setRow (Nat.le_refl _) _, .inl ⟨_, _, _, (parse_both P0.out (parse_both P1.out (parse_both P2.out (parse_both P3.out (parse_both P4.out P5.out))))), rfl, hI2, hRe⟩⟩

set_option maxRecDepth 100000 in
set_option maxHeartbeats 2000000 in
theorem r_lease (p : Nat) (bs : List UInt8) (w : World) (h : Re w p B bs) :
    Calls Tryz.prog 65 #[.pointer (some ⟨p, 0, none⟩)] w (RPost w p B shLease bs agg) := by
  have hp := h.lt
  go_enter Tryz.func65, Tryz.ntmps65
  go_wp2_with fail
  refine (r_number p bs _ (h.alloc _)).mono ?_
  rintro e w1 ⟨K1, ⟨t0, r0, q0, P0, rfl, I0, R0⟩ | ⟨P0, rfl⟩⟩
  case inr => exact ⟨rfl, ((Keeps.refl.alloc _).trans K1), .inr ⟨(parse_fst P0), rfl⟩⟩
  obtain ⟨n0, lo0, hi0, rfl, rfl⟩ := I0
  simp only [one, List.headD_cons]
  have P0 := Lib.hid P0
  have L1 := K1
  have z1 : w.heap.size + 1 ≤ w1.heap.size := by have := L1.size; simpa using this
  go_wp2_with fail
  refine (r_number p r0 _ R0).mono ?_
  rintro e w2 ⟨K2, ⟨t1, r1, q1, P1, rfl, I1, R1⟩ | ⟨P1, rfl⟩⟩
  case inr => exact ⟨rfl, ((Keeps.refl.alloc _).trans (L1.trans K2)), .inr ⟨(parse_snd P0.out (parse_fst P1)), rfl⟩⟩
  obtain ⟨n1, lo1, hi1, rfl, rfl⟩ := I1
  simp only [one, List.headD_cons]
  have P1 := Lib.hid P1
  have L2 := L1.trans K2
  have z2 : w.heap.size + 1 ≤ w2.heap.size := by have := L2.size; simpa using this
  go_wp2_with fail
  refine (r_number p r1 _ R1).mono ?_
  rintro e w3 ⟨K3, ⟨t2, r2, q2, P2, rfl, I2, R2⟩ | ⟨P2, rfl⟩⟩
  case inr => exact ⟨rfl, ((Keeps.refl.alloc _).trans (L2.trans K3)), .inr ⟨(parse_snd P0.out (parse_snd P1.out (parse_fst P2))), rfl⟩⟩
  obtain ⟨n2, lo2, hi2, rfl, rfl⟩ := I2
  simp only [one, List.headD_cons]
  have P2 := Lib.hid P2
  have L3 := L2.trans K3
  have z3 : w.heap.size + 1 ≤ w3.heap.size := by have := L3.size; simpa using this
  go_wp2_with fail
  refine (r_number p r2 _ R2).mono ?_
  rintro e w4 ⟨K4, ⟨t3, r3, q3, P3, rfl, I3, R3⟩ | ⟨P3, rfl⟩⟩
  case inr => exact ⟨rfl, ((Keeps.refl.alloc _).trans (L3.trans K4)), .inr ⟨(parse_snd P0.out (parse_snd P1.out (parse_snd P2.out P3))), rfl⟩⟩
  obtain ⟨n3, lo3, hi3, rfl, rfl⟩ := I3
  simp only [one, List.headD_cons]
  have P3 := Lib.hid P3
  have L4 := L3.trans K4
  have z4 : w.heap.size + 1 ≤ w4.heap.size := by have := L4.size; simpa using this
  have hrow := L4.row (heap_alloc_new w (.cells #[.int .i64 0, .int .i64 0, .int .i64 0, .int .i64 0] 150)) (show Off p w.heap.size from fun e => by omega)
  have HR := Lib.hid hrow; clear hrow
  have hi : (Tryz.prog.info? 150).map (·.size) = some 4 := by kernel_rfl
  have HI := Lib.hid hi; clear hi
  have hI : Is w4 (New (w.heap.size + 1) w4.heap.size) shLease [.int .i64 n0, .int .i64 n1, .int .i64 n2, .int .i64 n3] ([Tok.num n0] ++ ([Tok.num n1] ++ ([Tok.num n2] ++ [Tok.num n3]))) := mk_Lease lo0 hi0 lo1 hi1 lo2 hi2 lo3 hi3
  have h1 := all_oneCell_toArray hI.oneCell
  have hI2 := is_shut (#[.int .i64 n0, .int .i64 n1, .int .i64 n2, .int .i64 n3]) hI
  have hRe := R3.setRow (g := w.heap.size) (by omega) (#[.int .i64 n0, .int .i64 n1, .int .i64 n2, .int .i64 n3])
  have HROW := Lib.hid (setRow_heap w4 w.heap.size _ #[.int .i64 n0, .int .i64 n1, .int .i64 n2, .int .i64 n3] _ _ HR.out)
  have H1 := Lib.hid h1; clear h1
  go_wp2_with (refine wpList_store_row rfl 150 _ _ rfl w.heap.size 150 _ #[.int .i64 n0, .int .i64 n1, .int .i64 n2, .int .i64 n3] rfl rfl HR.out HI.out rfl H1.out ?_)
  refine bodyPost_ret (results_cell_row rfl _ _ w.heap.size _ _ (0, 0) _ rfl HROW.out Tryz.underlying150 rfl HI.out) rfl ?_
  exact ⟨((Keeps.refl.alloc _).trans L4).setRow (Nat.le_refl _) _, .inl ⟨_, _, _, (parse_both P0.out (parse_both P1.out (parse_both P2.out P3.out))), rfl, hI2, hRe⟩⟩

set_option maxRecDepth 100000 in
set_option maxHeartbeats 2000000 in
theorem r_done (p : Nat) (bs : List UInt8) (w : World) (h : Re w p B bs) :
    Calls Tryz.prog 63 #[.pointer (some ⟨p, 0, none⟩)] w (RPost w p B shDone bs agg) := by
  have hp := h.lt
  go_enter Tryz.func63, Tryz.ntmps63
  go_wp2_with fail
  refine (r_number p bs _ (h.alloc _)).mono ?_
  rintro e w1 ⟨K1, ⟨t0, r0, q0, P0, rfl, I0, R0⟩ | ⟨P0, rfl⟩⟩
  case inr => exact ⟨rfl, ((Keeps.refl.alloc _).trans K1), .inr ⟨(parse_fst P0), rfl⟩⟩
  obtain ⟨n0, lo0, hi0, rfl, rfl⟩ := I0
  simp only [one, List.headD_cons]
  have P0 := Lib.hid P0
  have L1 := K1
  have z1 : w.heap.size + 1 ≤ w1.heap.size := by have := L1.size; simpa using this
  go_wp2_with fail
  refine (r_number p r0 _ R0).mono ?_
  rintro e w2 ⟨K2, ⟨t1, r1, q1, P1, rfl, I1, R1⟩ | ⟨P1, rfl⟩⟩
  case inr => exact ⟨rfl, ((Keeps.refl.alloc _).trans (L1.trans K2)), .inr ⟨(parse_snd P0.out (parse_fst P1)), rfl⟩⟩
  obtain ⟨n1, lo1, hi1, rfl, rfl⟩ := I1
  simp only [one, List.headD_cons]
  have P1 := Lib.hid P1
  have L2 := L1.trans K2
  have z2 : w.heap.size + 1 ≤ w2.heap.size := by have := L2.size; simpa using this
  go_wp2_with fail
  refine (r_number p r1 _ R1).mono ?_
  rintro e w3 ⟨K3, ⟨t2, r2, q2, P2, rfl, I2, R2⟩ | ⟨P2, rfl⟩⟩
  case inr => exact ⟨rfl, ((Keeps.refl.alloc _).trans (L2.trans K3)), .inr ⟨(parse_snd P0.out (parse_snd P1.out (parse_fst P2))), rfl⟩⟩
  obtain ⟨n2, lo2, hi2, rfl, rfl⟩ := I2
  simp only [one, List.headD_cons]
  have P2 := Lib.hid P2
  have L3 := L2.trans K3
  have z3 : w.heap.size + 1 ≤ w3.heap.size := by have := L3.size; simpa using this
  go_wp2_with fail
  refine (r_number p r2 _ R2).mono ?_
  rintro e w4 ⟨K4, ⟨t3, r3, q3, P3, rfl, I3, R3⟩ | ⟨P3, rfl⟩⟩
  case inr => exact ⟨rfl, ((Keeps.refl.alloc _).trans (L3.trans K4)), .inr ⟨(parse_snd P0.out (parse_snd P1.out (parse_snd P2.out (parse_fst P3)))), rfl⟩⟩
  obtain ⟨n3, lo3, hi3, rfl, rfl⟩ := I3
  simp only [one, List.headD_cons]
  have P3 := Lib.hid P3
  have L4 := L3.trans K4
  have z4 : w.heap.size + 1 ≤ w4.heap.size := by have := L4.size; simpa using this
  go_wp2_with fail
  refine (r_number p r3 _ R3).mono ?_
  rintro e w5 ⟨K5, ⟨t4, r4, q4, P4, rfl, I4, R4⟩ | ⟨P4, rfl⟩⟩
  case inr => exact ⟨rfl, ((Keeps.refl.alloc _).trans (L4.trans K5)), .inr ⟨(parse_snd P0.out (parse_snd P1.out (parse_snd P2.out (parse_snd P3.out P4)))), rfl⟩⟩
  obtain ⟨n4, lo4, hi4, rfl, rfl⟩ := I4
  simp only [one, List.headD_cons]
  have P4 := Lib.hid P4
  have L5 := L4.trans K5
  have z5 : w.heap.size + 1 ≤ w5.heap.size := by have := L5.size; simpa using this
  have hrow := L5.row (heap_alloc_new w (.cells #[.int .i64 0, .int .i64 0, .int .i64 0, .int .i64 0, .int .i64 0] 145)) (show Off p w.heap.size from fun e => by omega)
  have HR := Lib.hid hrow; clear hrow
  have hi : (Tryz.prog.info? 145).map (·.size) = some 5 := by kernel_rfl
  have HI := Lib.hid hi; clear hi
  have hI : Is w5 (New (w.heap.size + 1) w5.heap.size) shDone [.int .i64 n0, .int .i64 n1, .int .i64 n2, .int .i64 n3, .int .i64 n4] ([Tok.num n0] ++ ([Tok.num n1] ++ ([Tok.num n2] ++ ([Tok.num n3] ++ [Tok.num n4])))) := mk_Done lo0 hi0 lo1 hi1 lo2 hi2 lo3 hi3 lo4 hi4
  have h1 := all_oneCell_toArray hI.oneCell
  have hI2 := is_shut (#[.int .i64 n0, .int .i64 n1, .int .i64 n2, .int .i64 n3, .int .i64 n4]) hI
  have hRe := R4.setRow (g := w.heap.size) (by omega) (#[.int .i64 n0, .int .i64 n1, .int .i64 n2, .int .i64 n3, .int .i64 n4])
  have HROW := Lib.hid (setRow_heap w5 w.heap.size _ #[.int .i64 n0, .int .i64 n1, .int .i64 n2, .int .i64 n3, .int .i64 n4] _ _ HR.out)
  have H1 := Lib.hid h1; clear h1
  go_wp2_with (refine wpList_store_row rfl 145 _ _ rfl w.heap.size 145 _ #[.int .i64 n0, .int .i64 n1, .int .i64 n2, .int .i64 n3, .int .i64 n4] rfl rfl HR.out HI.out rfl H1.out ?_)
  refine bodyPost_ret (results_cell_row rfl _ _ w.heap.size _ _ (0, 0) _ rfl HROW.out Tryz.underlying145 rfl HI.out) rfl ?_
  exact ⟨((Keeps.refl.alloc _).trans L5).setRow (Nat.le_refl _) _, .inl ⟨_, _, _, (parse_both P0.out (parse_both P1.out (parse_both P2.out (parse_both P3.out P4.out)))), rfl, hI2, hRe⟩⟩

end Go.Proofs.YtbhpbiimfcdgaaaGreat
