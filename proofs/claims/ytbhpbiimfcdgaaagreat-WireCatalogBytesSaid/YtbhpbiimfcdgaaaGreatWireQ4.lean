/-
  The program's reader, by contract: tables, catalogs, machines (made by wip/gen_wire.py)
-/
import Derived.Test.YtbhpbiimfcdgaaaGreatWireQ2
namespace Go.Proofs.YtbhpbiimfcdgaaaGreat
open Go.RowKit
set_option linter.unusedVariables false

variable {B : Nat}

theorem info_Rule : (Tryz.prog.info? 67).map (fun i => (i.zero, i.size, i.bytes)) = some (some (.agg #[.string ByteArray.empty, .int .i64 0, .slice none 0 0, .int .i64 0, .int .i64 0, .string ByteArray.empty, .string ByteArray.empty, .string ByteArray.empty]), 8, 112) := by kernel_rfl
set_option maxRecDepth 100000 in
set_option maxHeartbeats 2000000 in
theorem r_listRule (p : Nat) (bs : List UInt8) (w : World) (h : Re w p B bs) :
    Calls Tryz.prog 74 #[.pointer (some ⟨p, 0, none⟩), .func (.func 75) #[] #[]] w (RPost w p B (.list shRule) bs one) := by
  obtain ⟨i0, hi, hz0, hz1, hz2⟩ := info_parts info_Rule
  have hp := h.lt
  go_enter Tryz.func74, Tryz.ntmps74
  go_wp2_with fail
  refine (r_count p 4096 bs w h (by omega)).mono ?_
  rintro e w0 ⟨K0, ⟨n, r0, P0, rfl, R0⟩ | ⟨P0, rfl⟩⟩
  case inr => exact ⟨rfl, K0, .inr ⟨parse_list_none P0, rfl⟩⟩
  have hn := (pNum_some P0).1
  have P0 := Lib.hid P0
  go_wp2_with fail
  go_loopw [5, 8] (fun o i wr => ∃ (k : Nat) (tss : List (List Tok)) (r : List UInt8) (o' : Value), o' = o ∧ k ≤ n ∧ i = .int .i64 k ∧ parseN (parse shRule) k r0 = some (tss.flatten, r) ∧ Row wr w.heap.size 67 shRule o' k tss ∧ Re wr p B r ∧ Keeps (Off p) w wr) (fun _ i _ => n - (intOf i).toNat)
  case atStart => exact ⟨0, [], r0, _, rfl, Nat.zero_le _, rfl, rfl, Row.nil _ _ _ _, R0, K0⟩
  case round =>
    obtain ⟨k, tss, r, o', rfl, hk, rfl, hP, hRow, hR, hK⟩ := hrel
    have hP := Lib.hid hP
    by_cases hlt : k < n
    · have hwr := hK.size
      go_wp2_with fail
      refine (r_rule p r wr hR).mono ?_
      rintro e w1 ⟨K1, ⟨t, r1, x, P1, rfl, I1, R1⟩ | ⟨P1, rfl⟩⟩
      case inr => exact ⟨rfl, hK.trans K1, .inr ⟨parse_list_fail P0.out (parseN_fail hP.out P1 hlt), rfl⟩⟩
      have P1 := Lib.hid P1
      obtain ⟨s0, n1, a2, l2, c2, n3, n4, s5, s6, s7, rfl⟩ := cells_Rule I1
      simp only [agg]
      have hI1 := Lib.hid I1.oneCell
      obtain ⟨xss, x1, x2, x3, x4, x5⟩ := hRow
      have hob := fun j hj => (World.ownsRow.lt x3 j hj).1
      have y3 := own_off (own_off x3 K1 hp) (Keeps.refl.alloc (.cells #[.string s0, .int .i64 n1, .slice a2 l2 c2, .int .i64 n3, .int .i64 n4, .string s5, .string s6, .string s7] 67)) hp
      have X1 := Lib.hid x1; clear x1
      have X2 := Lib.hid x2; clear x2
      have X4 := Lib.hid x4; clear x4
      have X5 := Lib.hid x5; clear x5
      have HOB := Lib.hid hob; clear hob
      go_wp2_with (at_builtin; refine wpList_append_own_at _ rfl _ _ 102 rfl w.heap.size 67 i0 _ 8 112 Tryz.underlying102 hi hz0 hz1 hz2 rfl (by decide) _ _ _ rfl y3 ⟨_, 0, none⟩ 1 1 [.string s0, .int .i64 n1, .slice a2 l2 c2, .int .i64 n3, .int .i64 n4, .string s5, .string s6, .string s7] rfl rfl ?c1 ?c2 ?c3 ?c4 ?c5 ?_)
      case c1 => exact fun j u hu => cell_fresh _ _ _ j u hu
      case c2 => exact hI1.out
      case c3 => unfold maxLen; omega
      case c4 => omega
      case c5 => have := K1.size; simp; omega
      intro o3 w3 hown3 hgrow _ hat3
      have hRow3 := Row.more _ X1.out X2.out x3 X4.out X5.out K1 hp hwr I1 hown3 hgrow hat3
      have hR3 : Re w3 p B r1 := (R1.alloc _).kept (Keeps.of_grown (S := fun b => some b ≠ o'.ownBlock) hgrow fun k hk h => h hk.symm) (fun e => by have := HOB.out p e.symm; omega) (fun k hk e => by have := HOB.out k e.symm; have := hR.1; omega)
      have hK3 : Keeps (Off p) w w3 := keeps_grown (hK.trans (K1.alloc _)) hgrow HOB.out
      have hP3 := parseN_step hP.out P1.out
      rw [show tss.flatten ++ t = (tss ++ [t]).flatten by simp] at hP3
      have HP3 := Lib.hid hP3; clear hP3
      clear hown3 hat3
      go_wp2_with fail
      go_roundw
      case rel => exact ⟨k + 1, _, r1, o3, rfl, by omega, by go_num, HP3.out, hRow3, hR3, hK3⟩
      case measure => simp [intOf]; omega
    · have hkn : k = n := by omega
      obtain ⟨a', c', ho, hI⟩ := hRow.list (by omega) (by decide)
      have hP2 := parse_list_some P0.out (hkn ▸ hP.out)
      have HKN := Lib.hid hkn; clear hkn
      have HO := Lib.hid ho; clear ho
      have HP2 := Lib.hid hP2; clear hP2
      go_wp2_with fail
      go_ret
      exact ⟨hK, .inl ⟨_, _, _, HP2.out, rfl, by rw [← HKN.out]; exact hI, hR⟩⟩

theorem info_Schema : (Tryz.prog.info? 98).map (fun i => (i.zero, i.size, i.bytes)) = some (some (.agg #[.string ByteArray.empty, .string ByteArray.empty]), 2, 32) := by kernel_rfl
set_option maxRecDepth 100000 in
set_option maxHeartbeats 2000000 in
theorem r_listSchema (p : Nat) (bs : List UInt8) (w : World) (h : Re w p B bs) :
    Calls Tryz.prog 32 #[.pointer (some ⟨p, 0, none⟩), .func (.func 33) #[] #[]] w (RPost w p B (.list shSchema) bs one) := by
  obtain ⟨i0, hi, hz0, hz1, hz2⟩ := info_parts info_Schema
  have hp := h.lt
  go_enter Tryz.func32, Tryz.ntmps32
  go_wp2_with fail
  refine (r_count p 4096 bs w h (by omega)).mono ?_
  rintro e w0 ⟨K0, ⟨n, r0, P0, rfl, R0⟩ | ⟨P0, rfl⟩⟩
  case inr => exact ⟨rfl, K0, .inr ⟨parse_list_none P0, rfl⟩⟩
  have hn := (pNum_some P0).1
  have P0 := Lib.hid P0
  go_wp2_with fail
  go_loopw [5, 8] (fun o i wr => ∃ (k : Nat) (tss : List (List Tok)) (r : List UInt8) (o' : Value), o' = o ∧ k ≤ n ∧ i = .int .i64 k ∧ parseN (parse shSchema) k r0 = some (tss.flatten, r) ∧ Row wr w.heap.size 98 shSchema o' k tss ∧ Re wr p B r ∧ Keeps (Off p) w wr) (fun _ i _ => n - (intOf i).toNat)
  case atStart => exact ⟨0, [], r0, _, rfl, Nat.zero_le _, rfl, rfl, Row.nil _ _ _ _, R0, K0⟩
  case round =>
    obtain ⟨k, tss, r, o', rfl, hk, rfl, hP, hRow, hR, hK⟩ := hrel
    have hP := Lib.hid hP
    by_cases hlt : k < n
    · have hwr := hK.size
      go_wp2_with fail
      refine (r_schema p r wr hR).mono ?_
      rintro e w1 ⟨K1, ⟨t, r1, x, P1, rfl, I1, R1⟩ | ⟨P1, rfl⟩⟩
      case inr => exact ⟨rfl, hK.trans K1, .inr ⟨parse_list_fail P0.out (parseN_fail hP.out P1 hlt), rfl⟩⟩
      have P1 := Lib.hid P1
      obtain ⟨s0, s1, rfl⟩ := cells_Schema I1
      simp only [agg]
      have hI1 := Lib.hid I1.oneCell
      obtain ⟨xss, x1, x2, x3, x4, x5⟩ := hRow
      have hob := fun j hj => (World.ownsRow.lt x3 j hj).1
      have y3 := own_off (own_off x3 K1 hp) (Keeps.refl.alloc (.cells #[.string s0, .string s1] 98)) hp
      have X1 := Lib.hid x1; clear x1
      have X2 := Lib.hid x2; clear x2
      have X4 := Lib.hid x4; clear x4
      have X5 := Lib.hid x5; clear x5
      have HOB := Lib.hid hob; clear hob
      go_wp2_with (at_builtin; refine wpList_append_own_at _ rfl _ _ 24 rfl w.heap.size 98 i0 _ 2 32 Tryz.underlying24 hi hz0 hz1 hz2 rfl (by decide) _ _ _ rfl y3 ⟨_, 0, none⟩ 1 1 [.string s0, .string s1] rfl rfl ?c1 ?c2 ?c3 ?c4 ?c5 ?_)
      case c1 => exact fun j u hu => cell_fresh _ _ _ j u hu
      case c2 => exact hI1.out
      case c3 => unfold maxLen; omega
      case c4 => omega
      case c5 => have := K1.size; simp; omega
      intro o3 w3 hown3 hgrow _ hat3
      have hRow3 := Row.more _ X1.out X2.out x3 X4.out X5.out K1 hp hwr I1 hown3 hgrow hat3
      have hR3 : Re w3 p B r1 := (R1.alloc _).kept (Keeps.of_grown (S := fun b => some b ≠ o'.ownBlock) hgrow fun k hk h => h hk.symm) (fun e => by have := HOB.out p e.symm; omega) (fun k hk e => by have := HOB.out k e.symm; have := hR.1; omega)
      have hK3 : Keeps (Off p) w w3 := keeps_grown (hK.trans (K1.alloc _)) hgrow HOB.out
      have hP3 := parseN_step hP.out P1.out
      rw [show tss.flatten ++ t = (tss ++ [t]).flatten by simp] at hP3
      have HP3 := Lib.hid hP3; clear hP3
      clear hown3 hat3
      go_wp2_with fail
      go_roundw
      case rel => exact ⟨k + 1, _, r1, o3, rfl, by omega, by go_num, HP3.out, hRow3, hR3, hK3⟩
      case measure => simp [intOf]; omega
    · have hkn : k = n := by omega
      obtain ⟨a', c', ho, hI⟩ := hRow.list (by omega) (by decide)
      have hP2 := parse_list_some P0.out (hkn ▸ hP.out)
      have HKN := Lib.hid hkn; clear hkn
      have HO := Lib.hid ho; clear ho
      have HP2 := Lib.hid hP2; clear hP2
      go_wp2_with fail
      go_ret
      exact ⟨hK, .inl ⟨_, _, _, HP2.out, rfl, by rw [← HKN.out]; exact hI, hR⟩⟩

theorem info_Member : (Tryz.prog.info? 112).map (fun i => (i.zero, i.size, i.bytes)) = some (some (.agg #[.string ByteArray.empty, .string ByteArray.empty]), 2, 32) := by kernel_rfl
set_option maxRecDepth 100000 in
set_option maxHeartbeats 2000000 in
theorem r_listMember (p : Nat) (bs : List UInt8) (w : World) (h : Re w p B bs) :
    Calls Tryz.prog 38 #[.pointer (some ⟨p, 0, none⟩), .func (.func 39) #[] #[]] w (RPost w p B (.list shMember) bs one) := by
  obtain ⟨i0, hi, hz0, hz1, hz2⟩ := info_parts info_Member
  have hp := h.lt
  go_enter Tryz.func38, Tryz.ntmps38
  go_wp2_with fail
  refine (r_count p 4096 bs w h (by omega)).mono ?_
  rintro e w0 ⟨K0, ⟨n, r0, P0, rfl, R0⟩ | ⟨P0, rfl⟩⟩
  case inr => exact ⟨rfl, K0, .inr ⟨parse_list_none P0, rfl⟩⟩
  have hn := (pNum_some P0).1
  have P0 := Lib.hid P0
  go_wp2_with fail
  go_loopw [5, 8] (fun o i wr => ∃ (k : Nat) (tss : List (List Tok)) (r : List UInt8) (o' : Value), o' = o ∧ k ≤ n ∧ i = .int .i64 k ∧ parseN (parse shMember) k r0 = some (tss.flatten, r) ∧ Row wr w.heap.size 112 shMember o' k tss ∧ Re wr p B r ∧ Keeps (Off p) w wr) (fun _ i _ => n - (intOf i).toNat)
  case atStart => exact ⟨0, [], r0, _, rfl, Nat.zero_le _, rfl, rfl, Row.nil _ _ _ _, R0, K0⟩
  case round =>
    obtain ⟨k, tss, r, o', rfl, hk, rfl, hP, hRow, hR, hK⟩ := hrel
    have hP := Lib.hid hP
    by_cases hlt : k < n
    · have hwr := hK.size
      go_wp2_with fail
      refine (r_member p r wr hR).mono ?_
      rintro e w1 ⟨K1, ⟨t, r1, x, P1, rfl, I1, R1⟩ | ⟨P1, rfl⟩⟩
      case inr => exact ⟨rfl, hK.trans K1, .inr ⟨parse_list_fail P0.out (parseN_fail hP.out P1 hlt), rfl⟩⟩
      have P1 := Lib.hid P1
      obtain ⟨s0, s1, rfl⟩ := cells_Member I1
      simp only [agg]
      have hI1 := Lib.hid I1.oneCell
      obtain ⟨xss, x1, x2, x3, x4, x5⟩ := hRow
      have hob := fun j hj => (World.ownsRow.lt x3 j hj).1
      have y3 := own_off (own_off x3 K1 hp) (Keeps.refl.alloc (.cells #[.string s0, .string s1] 112)) hp
      have X1 := Lib.hid x1; clear x1
      have X2 := Lib.hid x2; clear x2
      have X4 := Lib.hid x4; clear x4
      have X5 := Lib.hid x5; clear x5
      have HOB := Lib.hid hob; clear hob
      go_wp2_with (at_builtin; refine wpList_append_own_at _ rfl _ _ 29 rfl w.heap.size 112 i0 _ 2 32 Tryz.underlying29 hi hz0 hz1 hz2 rfl (by decide) _ _ _ rfl y3 ⟨_, 0, none⟩ 1 1 [.string s0, .string s1] rfl rfl ?c1 ?c2 ?c3 ?c4 ?c5 ?_)
      case c1 => exact fun j u hu => cell_fresh _ _ _ j u hu
      case c2 => exact hI1.out
      case c3 => unfold maxLen; omega
      case c4 => omega
      case c5 => have := K1.size; simp; omega
      intro o3 w3 hown3 hgrow _ hat3
      have hRow3 := Row.more _ X1.out X2.out x3 X4.out X5.out K1 hp hwr I1 hown3 hgrow hat3
      have hR3 : Re w3 p B r1 := (R1.alloc _).kept (Keeps.of_grown (S := fun b => some b ≠ o'.ownBlock) hgrow fun k hk h => h hk.symm) (fun e => by have := HOB.out p e.symm; omega) (fun k hk e => by have := HOB.out k e.symm; have := hR.1; omega)
      have hK3 : Keeps (Off p) w w3 := keeps_grown (hK.trans (K1.alloc _)) hgrow HOB.out
      have hP3 := parseN_step hP.out P1.out
      rw [show tss.flatten ++ t = (tss ++ [t]).flatten by simp] at hP3
      have HP3 := Lib.hid hP3; clear hP3
      clear hown3 hat3
      go_wp2_with fail
      go_roundw
      case rel => exact ⟨k + 1, _, r1, o3, rfl, by omega, by go_num, HP3.out, hRow3, hR3, hK3⟩
      case measure => simp [intOf]; omega
    · have hkn : k = n := by omega
      obtain ⟨a', c', ho, hI⟩ := hRow.list (by omega) (by decide)
      have hP2 := parse_list_some P0.out (hkn ▸ hP.out)
      have HKN := Lib.hid hkn; clear hkn
      have HO := Lib.hid ho; clear ho
      have HP2 := Lib.hid hP2; clear hP2
      go_wp2_with fail
      go_ret
      exact ⟨hK, .inl ⟨_, _, _, HP2.out, rfl, by rw [← HKN.out]; exact hI, hR⟩⟩

theorem info_Grant : (Tryz.prog.info? 117).map (fun i => (i.zero, i.size, i.bytes)) = some (some (.agg #[.string ByteArray.empty, .string ByteArray.empty, .int .i64 0, .string ByteArray.empty, .string ByteArray.empty, .bool false]), 6, 80) := by kernel_rfl
set_option maxRecDepth 100000 in
set_option maxHeartbeats 2000000 in
theorem r_listGrant (p : Nat) (bs : List UInt8) (w : World) (h : Re w p B bs) :
    Calls Tryz.prog 40 #[.pointer (some ⟨p, 0, none⟩), .func (.func 41) #[] #[]] w (RPost w p B (.list shGrant) bs one) := by
  obtain ⟨i0, hi, hz0, hz1, hz2⟩ := info_parts info_Grant
  have hp := h.lt
  go_enter Tryz.func40, Tryz.ntmps40
  go_wp2_with fail
  refine (r_count p 4096 bs w h (by omega)).mono ?_
  rintro e w0 ⟨K0, ⟨n, r0, P0, rfl, R0⟩ | ⟨P0, rfl⟩⟩
  case inr => exact ⟨rfl, K0, .inr ⟨parse_list_none P0, rfl⟩⟩
  have hn := (pNum_some P0).1
  have P0 := Lib.hid P0
  go_wp2_with fail
  go_loopw [5, 8] (fun o i wr => ∃ (k : Nat) (tss : List (List Tok)) (r : List UInt8) (o' : Value), o' = o ∧ k ≤ n ∧ i = .int .i64 k ∧ parseN (parse shGrant) k r0 = some (tss.flatten, r) ∧ Row wr w.heap.size 117 shGrant o' k tss ∧ Re wr p B r ∧ Keeps (Off p) w wr) (fun _ i _ => n - (intOf i).toNat)
  case atStart => exact ⟨0, [], r0, _, rfl, Nat.zero_le _, rfl, rfl, Row.nil _ _ _ _, R0, K0⟩
  case round =>
    obtain ⟨k, tss, r, o', rfl, hk, rfl, hP, hRow, hR, hK⟩ := hrel
    have hP := Lib.hid hP
    by_cases hlt : k < n
    · have hwr := hK.size
      go_wp2_with fail
      refine (r_grant p r wr hR).mono ?_
      rintro e w1 ⟨K1, ⟨t, r1, x, P1, rfl, I1, R1⟩ | ⟨P1, rfl⟩⟩
      case inr => exact ⟨rfl, hK.trans K1, .inr ⟨parse_list_fail P0.out (parseN_fail hP.out P1 hlt), rfl⟩⟩
      have P1 := Lib.hid P1
      obtain ⟨s0, s1, n2, s3, s4, b5, rfl⟩ := cells_Grant I1
      simp only [agg]
      have hI1 := Lib.hid I1.oneCell
      obtain ⟨xss, x1, x2, x3, x4, x5⟩ := hRow
      have hob := fun j hj => (World.ownsRow.lt x3 j hj).1
      have y3 := own_off (own_off x3 K1 hp) (Keeps.refl.alloc (.cells #[.string s0, .string s1, .int .i64 n2, .string s3, .string s4, .bool b5] 117)) hp
      have X1 := Lib.hid x1; clear x1
      have X2 := Lib.hid x2; clear x2
      have X4 := Lib.hid x4; clear x4
      have X5 := Lib.hid x5; clear x5
      have HOB := Lib.hid hob; clear hob
      go_wp2_with (at_builtin; refine wpList_append_own_at _ rfl _ _ 32 rfl w.heap.size 117 i0 _ 6 80 Tryz.underlying32 hi hz0 hz1 hz2 rfl (by decide) _ _ _ rfl y3 ⟨_, 0, none⟩ 1 1 [.string s0, .string s1, .int .i64 n2, .string s3, .string s4, .bool b5] rfl rfl ?c1 ?c2 ?c3 ?c4 ?c5 ?_)
      case c1 => exact fun j u hu => cell_fresh _ _ _ j u hu
      case c2 => exact hI1.out
      case c3 => unfold maxLen; omega
      case c4 => omega
      case c5 => have := K1.size; simp; omega
      intro o3 w3 hown3 hgrow _ hat3
      have hRow3 := Row.more _ X1.out X2.out x3 X4.out X5.out K1 hp hwr I1 hown3 hgrow hat3
      have hR3 : Re w3 p B r1 := (R1.alloc _).kept (Keeps.of_grown (S := fun b => some b ≠ o'.ownBlock) hgrow fun k hk h => h hk.symm) (fun e => by have := HOB.out p e.symm; omega) (fun k hk e => by have := HOB.out k e.symm; have := hR.1; omega)
      have hK3 : Keeps (Off p) w w3 := keeps_grown (hK.trans (K1.alloc _)) hgrow HOB.out
      have hP3 := parseN_step hP.out P1.out
      rw [show tss.flatten ++ t = (tss ++ [t]).flatten by simp] at hP3
      have HP3 := Lib.hid hP3; clear hP3
      clear hown3 hat3
      go_wp2_with fail
      go_roundw
      case rel => exact ⟨k + 1, _, r1, o3, rfl, by omega, by go_num, HP3.out, hRow3, hR3, hK3⟩
      case measure => simp [intOf]; omega
    · have hkn : k = n := by omega
      obtain ⟨a', c', ho, hI⟩ := hRow.list (by omega) (by decide)
      have hP2 := parse_list_some P0.out (hkn ▸ hP.out)
      have HKN := Lib.hid hkn; clear hkn
      have HO := Lib.hid ho; clear ho
      have HP2 := Lib.hid hP2; clear hP2
      go_wp2_with fail
      go_ret
      exact ⟨hK, .inl ⟨_, _, _, HP2.out, rfl, by rw [← HKN.out]; exact hI, hR⟩⟩

theorem info_Lease : (Tryz.prog.info? 150).map (fun i => (i.zero, i.size, i.bytes)) = some (some (.agg #[.int .i64 0, .int .i64 0, .int .i64 0, .int .i64 0]), 4, 32) := by kernel_rfl
set_option maxRecDepth 100000 in
set_option maxHeartbeats 2000000 in
theorem r_listLease (p : Nat) (bs : List UInt8) (w : World) (h : Re w p B bs) :
    Calls Tryz.prog 64 #[.pointer (some ⟨p, 0, none⟩), .func (.func 65) #[] #[]] w (RPost w p B (.list shLease) bs one) := by
  obtain ⟨i0, hi, hz0, hz1, hz2⟩ := info_parts info_Lease
  have hp := h.lt
  go_enter Tryz.func64, Tryz.ntmps64
  go_wp2_with fail
  refine (r_count p 4096 bs w h (by omega)).mono ?_
  rintro e w0 ⟨K0, ⟨n, r0, P0, rfl, R0⟩ | ⟨P0, rfl⟩⟩
  case inr => exact ⟨rfl, K0, .inr ⟨parse_list_none P0, rfl⟩⟩
  have hn := (pNum_some P0).1
  have P0 := Lib.hid P0
  go_wp2_with fail
  go_loopw [5, 8] (fun o i wr => ∃ (k : Nat) (tss : List (List Tok)) (r : List UInt8) (o' : Value), o' = o ∧ k ≤ n ∧ i = .int .i64 k ∧ parseN (parse shLease) k r0 = some (tss.flatten, r) ∧ Row wr w.heap.size 150 shLease o' k tss ∧ Re wr p B r ∧ Keeps (Off p) w wr) (fun _ i _ => n - (intOf i).toNat)
  case atStart => exact ⟨0, [], r0, _, rfl, Nat.zero_le _, rfl, rfl, Row.nil _ _ _ _, R0, K0⟩
  case round =>
    obtain ⟨k, tss, r, o', rfl, hk, rfl, hP, hRow, hR, hK⟩ := hrel
    have hP := Lib.hid hP
    by_cases hlt : k < n
    · have hwr := hK.size
      go_wp2_with fail
      refine (r_lease p r wr hR).mono ?_
      rintro e w1 ⟨K1, ⟨t, r1, x, P1, rfl, I1, R1⟩ | ⟨P1, rfl⟩⟩
      case inr => exact ⟨rfl, hK.trans K1, .inr ⟨parse_list_fail P0.out (parseN_fail hP.out P1 hlt), rfl⟩⟩
      have P1 := Lib.hid P1
      obtain ⟨n0, n1, n2, n3, rfl⟩ := cells_Lease I1
      simp only [agg]
      have hI1 := Lib.hid I1.oneCell
      obtain ⟨xss, x1, x2, x3, x4, x5⟩ := hRow
      have hob := fun j hj => (World.ownsRow.lt x3 j hj).1
      have y3 := own_off (own_off x3 K1 hp) (Keeps.refl.alloc (.cells #[.int .i64 n0, .int .i64 n1, .int .i64 n2, .int .i64 n3] 150)) hp
      have X1 := Lib.hid x1; clear x1
      have X2 := Lib.hid x2; clear x2
      have X4 := Lib.hid x4; clear x4
      have X5 := Lib.hid x5; clear x5
      have HOB := Lib.hid hob; clear hob
      go_wp2_with (at_builtin; refine wpList_append_own_at _ rfl _ _ 44 rfl w.heap.size 150 i0 _ 4 32 Tryz.underlying44 hi hz0 hz1 hz2 rfl (by decide) _ _ _ rfl y3 ⟨_, 0, none⟩ 1 1 [.int .i64 n0, .int .i64 n1, .int .i64 n2, .int .i64 n3] rfl rfl ?c1 ?c2 ?c3 ?c4 ?c5 ?_)
      case c1 => exact fun j u hu => cell_fresh _ _ _ j u hu
      case c2 => exact hI1.out
      case c3 => unfold maxLen; omega
      case c4 => omega
      case c5 => have := K1.size; simp; omega
      intro o3 w3 hown3 hgrow _ hat3
      have hRow3 := Row.more _ X1.out X2.out x3 X4.out X5.out K1 hp hwr I1 hown3 hgrow hat3
      have hR3 : Re w3 p B r1 := (R1.alloc _).kept (Keeps.of_grown (S := fun b => some b ≠ o'.ownBlock) hgrow fun k hk h => h hk.symm) (fun e => by have := HOB.out p e.symm; omega) (fun k hk e => by have := HOB.out k e.symm; have := hR.1; omega)
      have hK3 : Keeps (Off p) w w3 := keeps_grown (hK.trans (K1.alloc _)) hgrow HOB.out
      have hP3 := parseN_step hP.out P1.out
      rw [show tss.flatten ++ t = (tss ++ [t]).flatten by simp] at hP3
      have HP3 := Lib.hid hP3; clear hP3
      clear hown3 hat3
      go_wp2_with fail
      go_roundw
      case rel => exact ⟨k + 1, _, r1, o3, rfl, by omega, by go_num, HP3.out, hRow3, hR3, hK3⟩
      case measure => simp [intOf]; omega
    · have hkn : k = n := by omega
      obtain ⟨a', c', ho, hI⟩ := hRow.list (by omega) (by decide)
      have hP2 := parse_list_some P0.out (hkn ▸ hP.out)
      have HKN := Lib.hid hkn; clear hkn
      have HO := Lib.hid ho; clear ho
      have HP2 := Lib.hid hP2; clear hP2
      go_wp2_with fail
      go_ret
      exact ⟨hK, .inl ⟨_, _, _, HP2.out, rfl, by rw [← HKN.out]; exact hI, hR⟩⟩

theorem info_Done : (Tryz.prog.info? 145).map (fun i => (i.zero, i.size, i.bytes)) = some (some (.agg #[.int .i64 0, .int .i64 0, .int .i64 0, .int .i64 0, .int .i64 0]), 5, 40) := by kernel_rfl
set_option maxRecDepth 100000 in
set_option maxHeartbeats 2000000 in
theorem r_listDone (p : Nat) (bs : List UInt8) (w : World) (h : Re w p B bs) :
    Calls Tryz.prog 62 #[.pointer (some ⟨p, 0, none⟩), .func (.func 63) #[] #[]] w (RPost w p B (.list shDone) bs one) := by
  obtain ⟨i0, hi, hz0, hz1, hz2⟩ := info_parts info_Done
  have hp := h.lt
  go_enter Tryz.func62, Tryz.ntmps62
  go_wp2_with fail
  refine (r_count p 4096 bs w h (by omega)).mono ?_
  rintro e w0 ⟨K0, ⟨n, r0, P0, rfl, R0⟩ | ⟨P0, rfl⟩⟩
  case inr => exact ⟨rfl, K0, .inr ⟨parse_list_none P0, rfl⟩⟩
  have hn := (pNum_some P0).1
  have P0 := Lib.hid P0
  go_wp2_with fail
  go_loopw [5, 8] (fun o i wr => ∃ (k : Nat) (tss : List (List Tok)) (r : List UInt8) (o' : Value), o' = o ∧ k ≤ n ∧ i = .int .i64 k ∧ parseN (parse shDone) k r0 = some (tss.flatten, r) ∧ Row wr w.heap.size 145 shDone o' k tss ∧ Re wr p B r ∧ Keeps (Off p) w wr) (fun _ i _ => n - (intOf i).toNat)
  case atStart => exact ⟨0, [], r0, _, rfl, Nat.zero_le _, rfl, rfl, Row.nil _ _ _ _, R0, K0⟩
  case round =>
    obtain ⟨k, tss, r, o', rfl, hk, rfl, hP, hRow, hR, hK⟩ := hrel
    have hP := Lib.hid hP
    by_cases hlt : k < n
    · have hwr := hK.size
      go_wp2_with fail
      refine (r_done p r wr hR).mono ?_
      rintro e w1 ⟨K1, ⟨t, r1, x, P1, rfl, I1, R1⟩ | ⟨P1, rfl⟩⟩
      case inr => exact ⟨rfl, hK.trans K1, .inr ⟨parse_list_fail P0.out (parseN_fail hP.out P1 hlt), rfl⟩⟩
      have P1 := Lib.hid P1
      obtain ⟨n0, n1, n2, n3, n4, rfl⟩ := cells_Done I1
      simp only [agg]
      have hI1 := Lib.hid I1.oneCell
      obtain ⟨xss, x1, x2, x3, x4, x5⟩ := hRow
      have hob := fun j hj => (World.ownsRow.lt x3 j hj).1
      have y3 := own_off (own_off x3 K1 hp) (Keeps.refl.alloc (.cells #[.int .i64 n0, .int .i64 n1, .int .i64 n2, .int .i64 n3, .int .i64 n4] 145)) hp
      have X1 := Lib.hid x1; clear x1
      have X2 := Lib.hid x2; clear x2
      have X4 := Lib.hid x4; clear x4
      have X5 := Lib.hid x5; clear x5
      have HOB := Lib.hid hob; clear hob
      go_wp2_with (at_builtin; refine wpList_append_own_at _ rfl _ _ 43 rfl w.heap.size 145 i0 _ 5 40 Tryz.underlying43 hi hz0 hz1 hz2 rfl (by decide) _ _ _ rfl y3 ⟨_, 0, none⟩ 1 1 [.int .i64 n0, .int .i64 n1, .int .i64 n2, .int .i64 n3, .int .i64 n4] rfl rfl ?c1 ?c2 ?c3 ?c4 ?c5 ?_)
      case c1 => exact fun j u hu => cell_fresh _ _ _ j u hu
      case c2 => exact hI1.out
      case c3 => unfold maxLen; omega
      case c4 => omega
      case c5 => have := K1.size; simp; omega
      intro o3 w3 hown3 hgrow _ hat3
      have hRow3 := Row.more _ X1.out X2.out x3 X4.out X5.out K1 hp hwr I1 hown3 hgrow hat3
      have hR3 : Re w3 p B r1 := (R1.alloc _).kept (Keeps.of_grown (S := fun b => some b ≠ o'.ownBlock) hgrow fun k hk h => h hk.symm) (fun e => by have := HOB.out p e.symm; omega) (fun k hk e => by have := HOB.out k e.symm; have := hR.1; omega)
      have hK3 : Keeps (Off p) w w3 := keeps_grown (hK.trans (K1.alloc _)) hgrow HOB.out
      have hP3 := parseN_step hP.out P1.out
      rw [show tss.flatten ++ t = (tss ++ [t]).flatten by simp] at hP3
      have HP3 := Lib.hid hP3; clear hP3
      clear hown3 hat3
      go_wp2_with fail
      go_roundw
      case rel => exact ⟨k + 1, _, r1, o3, rfl, by omega, by go_num, HP3.out, hRow3, hR3, hK3⟩
      case measure => simp [intOf]; omega
    · have hkn : k = n := by omega
      obtain ⟨a', c', ho, hI⟩ := hRow.list (by omega) (by decide)
      have hP2 := parse_list_some P0.out (hkn ▸ hP.out)
      have HKN := Lib.hid hkn; clear hkn
      have HO := Lib.hid ho; clear ho
      have HP2 := Lib.hid hP2; clear hP2
      go_wp2_with fail
      go_ret
      exact ⟨hK, .inl ⟨_, _, _, HP2.out, rfl, by rw [← HKN.out]; exact hI, hR⟩⟩

set_option maxRecDepth 100000 in
set_option maxHeartbeats 2000000 in
theorem r_table (p : Nat) (bs : List UInt8) (w : World) (h : Re w p B bs) :
    Calls Tryz.prog 35 #[.pointer (some ⟨p, 0, none⟩)] w (RPost w p B shTable bs agg) := by
  have hp := h.lt
  go_enter Tryz.func35, Tryz.ntmps35
  go_wp2_with fail
  refine (r_text p bs _ (h.alloc _)).mono ?_
  rintro e w1 ⟨K1, ⟨t0, r0, q0, P0, rfl, I0, R0⟩ | ⟨P0, rfl⟩⟩
  case inr => exact ⟨rfl, ((Keeps.refl.alloc _).trans K1), .inr ⟨(parse_fst P0), rfl⟩⟩
  obtain ⟨s0, hs0, rfl, rfl⟩ := I0
  simp only [one, List.headD_cons]
  have P0 := Lib.hid P0
  have L1 := K1
  have z1 : w.heap.size + 1 ≤ w1.heap.size := by have := L1.size; simpa using this
  go_wp2_with fail
  refine (r_text p r0 _ R0).mono ?_
  rintro e w2 ⟨K2, ⟨t1, r1, q1, P1, rfl, I1, R1⟩ | ⟨P1, rfl⟩⟩
  case inr => exact ⟨rfl, ((Keeps.refl.alloc _).trans (L1.trans K2)), .inr ⟨(parse_snd P0.out (parse_fst P1)), rfl⟩⟩
  obtain ⟨s1, hs1, rfl, rfl⟩ := I1
  simp only [one, List.headD_cons]
  have P1 := Lib.hid P1
  have L2 := L1.trans K2
  have z2 : w.heap.size + 1 ≤ w2.heap.size := by have := L2.size; simpa using this
  go_wp2_with fail
  refine (r_text p r1 _ R1).mono ?_
  rintro e w3 ⟨K3, ⟨t2, r2, q2, P2, rfl, I2, R2⟩ | ⟨P2, rfl⟩⟩
  case inr => exact ⟨rfl, ((Keeps.refl.alloc _).trans (L2.trans K3)), .inr ⟨(parse_snd P0.out (parse_snd P1.out (parse_fst P2))), rfl⟩⟩
  obtain ⟨s2, hs2, rfl, rfl⟩ := I2
  simp only [one, List.headD_cons]
  have P2 := Lib.hid P2
  have L3 := L2.trans K3
  have z3 : w.heap.size + 1 ≤ w3.heap.size := by have := L3.size; simpa using this
  go_wp2_with fail
  refine (r_listColumn p r2 _ R2).mono ?_
  rintro e w4 ⟨K4, ⟨t3, r3, q3, P3, rfl, I3, R3⟩ | ⟨P3, rfl⟩⟩
  case inr => exact ⟨rfl, ((Keeps.refl.alloc _).trans (L3.trans K4)), .inr ⟨(parse_snd P0.out (parse_snd P1.out (parse_snd P2.out (parse_fst P3)))), rfl⟩⟩
  obtain ⟨a3, l3, c3, rfl⟩ := I3.list_cells
  simp only [one, List.headD_cons]
  have P3 := Lib.hid P3
  have L4 := L3.trans K4
  have z4 : w.heap.size + 1 ≤ w4.heap.size := by have := L4.size; simpa using this
  go_wp2_with fail
  refine (r_listRule p r3 _ R3).mono ?_
  rintro e w5 ⟨K5, ⟨t4, r4, q4, P4, rfl, I4, R4⟩ | ⟨P4, rfl⟩⟩
  case inr => exact ⟨rfl, ((Keeps.refl.alloc _).trans (L4.trans K5)), .inr ⟨(parse_snd P0.out (parse_snd P1.out (parse_snd P2.out (parse_snd P3.out P4)))), rfl⟩⟩
  obtain ⟨a4, l4, c4, rfl⟩ := I4.list_cells
  simp only [one, List.headD_cons]
  have P4 := Lib.hid P4
  have L5 := L4.trans K5
  have z5 : w.heap.size + 1 ≤ w5.heap.size := by have := L5.size; simpa using this
  have hrow := L5.row (heap_alloc_new w (.cells #[.string ByteArray.empty, .string ByteArray.empty, .string ByteArray.empty, .slice none 0 0, .slice none 0 0] 104)) (show Off p w.heap.size from fun e => by omega)
  have HR := Lib.hid hrow; clear hrow
  have hi : (Tryz.prog.info? 104).map (·.size) = some 5 := by kernel_rfl
  have HI := Lib.hid hi; clear hi
  have J3 : Is w5 (New (w.heap.size + 1) w5.heap.size) (.list shColumn) [.slice a3 l3 c3] t3 := is_later I3 K5 (show p < w.heap.size + 1 by omega) z3
  have J4 : Is w5 (New (w.heap.size + 1) w5.heap.size) (.list shRule) [.slice a4 l4 c4] t4 := is_later I4 Keeps.refl (show p < w.heap.size + 1 by omega) z4
  have hI : Is w5 (New (w.heap.size + 1) w5.heap.size) shTable [.string s0, .string s1, .string s2, .slice a3 l3 c3, .slice a4 l4 c4] ([Tok.text s0.data.toList] ++ ([Tok.text s1.data.toList] ++ ([Tok.text s2.data.toList] ++ (t3 ++ t4)))) := mk_Table hs0 hs1 hs2 J3 J4
  have h1 := all_oneCell_toArray hI.oneCell
  have hI2 := is_shut (#[.string s0, .string s1, .string s2, .slice a3 l3 c3, .slice a4 l4 c4]) hI
  have hRe := R4.setRow (g := w.heap.size) (by omega) (#[.string s0, .string s1, .string s2, .slice a3 l3 c3, .slice a4 l4 c4])
  have HROW := Lib.hid (setRow_heap w5 w.heap.size _ #[.string s0, .string s1, .string s2, .slice a3 l3 c3, .slice a4 l4 c4] _ _ HR.out)
  have H1 := Lib.hid h1; clear h1
  go_wp2_with (refine wpList_store_row rfl 104 _ _ rfl w.heap.size 104 _ #[.string s0, .string s1, .string s2, .slice a3 l3 c3, .slice a4 l4 c4] rfl rfl HR.out HI.out rfl H1.out ?_)
  refine bodyPost_ret (results_cell_row rfl _ _ w.heap.size _ _ (0, 0) _ rfl HROW.out Tryz.underlying104 rfl HI.out) rfl ?_
  exact ⟨((Keeps.refl.alloc _).trans L5).setRow (Nat.le_refl _) _, .inl ⟨_, _, _, (parse_both P0.out (parse_both P1.out (parse_both P2.out (parse_both P3.out P4.out)))), rfl, hI2, hRe⟩⟩

theorem info_Table : (Tryz.prog.info? 104).map (fun i => (i.zero, i.size, i.bytes)) = some (some (.agg #[.string ByteArray.empty, .string ByteArray.empty, .string ByteArray.empty, .slice none 0 0, .slice none 0 0]), 5, 96) := by kernel_rfl
set_option maxRecDepth 100000 in
set_option maxHeartbeats 2000000 in
theorem r_listTable (p : Nat) (bs : List UInt8) (w : World) (h : Re w p B bs) :
    Calls Tryz.prog 34 #[.pointer (some ⟨p, 0, none⟩), .func (.func 35) #[] #[]] w (RPost w p B (.list shTable) bs one) := by
  obtain ⟨i0, hi, hz0, hz1, hz2⟩ := info_parts info_Table
  have hp := h.lt
  go_enter Tryz.func34, Tryz.ntmps34
  go_wp2_with fail
  refine (r_count p 4096 bs w h (by omega)).mono ?_
  rintro e w0 ⟨K0, ⟨n, r0, P0, rfl, R0⟩ | ⟨P0, rfl⟩⟩
  case inr => exact ⟨rfl, K0, .inr ⟨parse_list_none P0, rfl⟩⟩
  have hn := (pNum_some P0).1
  have P0 := Lib.hid P0
  go_wp2_with fail
  go_loopw [5, 8] (fun o i wr => ∃ (k : Nat) (tss : List (List Tok)) (r : List UInt8) (o' : Value), o' = o ∧ k ≤ n ∧ i = .int .i64 k ∧ parseN (parse shTable) k r0 = some (tss.flatten, r) ∧ Row wr w.heap.size 104 shTable o' k tss ∧ Re wr p B r ∧ Keeps (Off p) w wr) (fun _ i _ => n - (intOf i).toNat)
  case atStart => exact ⟨0, [], r0, _, rfl, Nat.zero_le _, rfl, rfl, Row.nil _ _ _ _, R0, K0⟩
  case round =>
    obtain ⟨k, tss, r, o', rfl, hk, rfl, hP, hRow, hR, hK⟩ := hrel
    have hP := Lib.hid hP
    by_cases hlt : k < n
    · have hwr := hK.size
      go_wp2_with fail
      refine (r_table p r wr hR).mono ?_
      rintro e w1 ⟨K1, ⟨t, r1, x, P1, rfl, I1, R1⟩ | ⟨P1, rfl⟩⟩
      case inr => exact ⟨rfl, hK.trans K1, .inr ⟨parse_list_fail P0.out (parseN_fail hP.out P1 hlt), rfl⟩⟩
      have P1 := Lib.hid P1
      obtain ⟨s0, s1, s2, a3, l3, c3, a4, l4, c4, rfl⟩ := cells_Table I1
      simp only [agg]
      have hI1 := Lib.hid I1.oneCell
      obtain ⟨xss, x1, x2, x3, x4, x5⟩ := hRow
      have hob := fun j hj => (World.ownsRow.lt x3 j hj).1
      have y3 := own_off (own_off x3 K1 hp) (Keeps.refl.alloc (.cells #[.string s0, .string s1, .string s2, .slice a3 l3 c3, .slice a4 l4 c4] 104)) hp
      have X1 := Lib.hid x1; clear x1
      have X2 := Lib.hid x2; clear x2
      have X4 := Lib.hid x4; clear x4
      have X5 := Lib.hid x5; clear x5
      have HOB := Lib.hid hob; clear hob
      go_wp2_with (at_builtin; refine wpList_append_own_at _ rfl _ _ 25 rfl w.heap.size 104 i0 _ 5 96 Tryz.underlying25 hi hz0 hz1 hz2 rfl (by decide) _ _ _ rfl y3 ⟨_, 0, none⟩ 1 1 [.string s0, .string s1, .string s2, .slice a3 l3 c3, .slice a4 l4 c4] rfl rfl ?c1 ?c2 ?c3 ?c4 ?c5 ?_)
      case c1 => exact fun j u hu => cell_fresh _ _ _ j u hu
      case c2 => exact hI1.out
      case c3 => unfold maxLen; omega
      case c4 => omega
      case c5 => have := K1.size; simp; omega
      intro o3 w3 hown3 hgrow _ hat3
      have hRow3 := Row.more _ X1.out X2.out x3 X4.out X5.out K1 hp hwr I1 hown3 hgrow hat3
      have hR3 : Re w3 p B r1 := (R1.alloc _).kept (Keeps.of_grown (S := fun b => some b ≠ o'.ownBlock) hgrow fun k hk h => h hk.symm) (fun e => by have := HOB.out p e.symm; omega) (fun k hk e => by have := HOB.out k e.symm; have := hR.1; omega)
      have hK3 : Keeps (Off p) w w3 := keeps_grown (hK.trans (K1.alloc _)) hgrow HOB.out
      have hP3 := parseN_step hP.out P1.out
      rw [show tss.flatten ++ t = (tss ++ [t]).flatten by simp] at hP3
      have HP3 := Lib.hid hP3; clear hP3
      clear hown3 hat3
      go_wp2_with fail
      go_roundw
      case rel => exact ⟨k + 1, _, r1, o3, rfl, by omega, by go_num, HP3.out, hRow3, hR3, hK3⟩
      case measure => simp [intOf]; omega
    · have hkn : k = n := by omega
      obtain ⟨a', c', ho, hI⟩ := hRow.list (by omega) (by decide)
      have hP2 := parse_list_some P0.out (hkn ▸ hP.out)
      have HKN := Lib.hid hkn; clear hkn
      have HO := Lib.hid ho; clear ho
      have HP2 := Lib.hid hP2; clear hP2
      go_wp2_with fail
      go_ret
      exact ⟨hK, .inl ⟨_, _, _, HP2.out, rfl, by rw [← HKN.out]; exact hI, hR⟩⟩

set_option maxRecDepth 100000 in
set_option maxHeartbeats 2000000 in
theorem r_catalog (p : Nat) (bs : List UInt8) (w : World) (h : Re w p B bs) :
    Calls Tryz.prog 15 #[.pointer (some ⟨p, 0, none⟩)] w (RPost w p B shCatalog bs agg) := by
  have hp := h.lt
  go_enter Tryz.func15, Tryz.ntmps15
  go_wp2_with fail
  refine (r_number p bs _ (h.alloc _)).mono ?_
  rintro e w1 ⟨K1, ⟨t0, r0, q0, P0, rfl, I0, R0⟩ | ⟨P0, rfl⟩⟩
  case inr => exact ⟨rfl, ((Keeps.refl.alloc _).trans K1), .inr ⟨(parse_fst P0), rfl⟩⟩
  obtain ⟨n0, lo0, hi0, rfl, rfl⟩ := I0
  simp only [one, List.headD_cons]
  have P0 := Lib.hid P0
  have L1 := K1
  have z1 : w.heap.size + 1 ≤ w1.heap.size := by have := L1.size; simpa using this
  go_wp2_with fail
  refine (r_number p r0 _ R0).mono ?_
  rintro e w2 ⟨K2, ⟨t1, r1, q1, P1, rfl, I1, R1⟩ | ⟨P1, rfl⟩⟩
  case inr => exact ⟨rfl, ((Keeps.refl.alloc _).trans (L1.trans K2)), .inr ⟨(parse_snd P0.out (parse_fst P1)), rfl⟩⟩
  obtain ⟨n1, lo1, hi1, rfl, rfl⟩ := I1
  simp only [one, List.headD_cons]
  have P1 := Lib.hid P1
  have L2 := L1.trans K2
  have z2 : w.heap.size + 1 ≤ w2.heap.size := by have := L2.size; simpa using this
  go_wp2_with fail
  refine (r_listSchema p r1 _ R1).mono ?_
  rintro e w3 ⟨K3, ⟨t2, r2, q2, P2, rfl, I2, R2⟩ | ⟨P2, rfl⟩⟩
  case inr => exact ⟨rfl, ((Keeps.refl.alloc _).trans (L2.trans K3)), .inr ⟨(parse_snd P0.out (parse_snd P1.out (parse_fst P2))), rfl⟩⟩
  obtain ⟨a2, l2, c2, rfl⟩ := I2.list_cells
  simp only [one, List.headD_cons]
  have P2 := Lib.hid P2
  have L3 := L2.trans K3
  have z3 : w.heap.size + 1 ≤ w3.heap.size := by have := L3.size; simpa using this
  go_wp2_with fail
  refine (r_listTable p r2 _ R2).mono ?_
  rintro e w4 ⟨K4, ⟨t3, r3, q3, P3, rfl, I3, R3⟩ | ⟨P3, rfl⟩⟩
  case inr => exact ⟨rfl, ((Keeps.refl.alloc _).trans (L3.trans K4)), .inr ⟨(parse_snd P0.out (parse_snd P1.out (parse_snd P2.out (parse_fst P3)))), rfl⟩⟩
  obtain ⟨a3, l3, c3, rfl⟩ := I3.list_cells
  simp only [one, List.headD_cons]
  have P3 := Lib.hid P3
  have L4 := L3.trans K4
  have z4 : w.heap.size + 1 ≤ w4.heap.size := by have := L4.size; simpa using this
  go_wp2_with fail
  refine (r_listText p r3 _ R3).mono ?_
  rintro e w5 ⟨K5, ⟨t4, r4, q4, P4, rfl, I4, R4⟩ | ⟨P4, rfl⟩⟩
  case inr => exact ⟨rfl, ((Keeps.refl.alloc _).trans (L4.trans K5)), .inr ⟨(parse_snd P0.out (parse_snd P1.out (parse_snd P2.out (parse_snd P3.out (parse_fst P4))))), rfl⟩⟩
  obtain ⟨a4, l4, c4, rfl⟩ := I4.list_cells
  simp only [one, List.headD_cons]
  have P4 := Lib.hid P4
  have L5 := L4.trans K5
  have z5 : w.heap.size + 1 ≤ w5.heap.size := by have := L5.size; simpa using this
  go_wp2_with fail
  refine (r_listMember p r4 _ R4).mono ?_
  rintro e w6 ⟨K6, ⟨t5, r5, q5, P5, rfl, I5, R5⟩ | ⟨P5, rfl⟩⟩
  case inr => exact ⟨rfl, ((Keeps.refl.alloc _).trans (L5.trans K6)), .inr ⟨(parse_snd P0.out (parse_snd P1.out (parse_snd P2.out (parse_snd P3.out (parse_snd P4.out (parse_fst P5)))))), rfl⟩⟩
  obtain ⟨a5, l5, c5, rfl⟩ := I5.list_cells
  simp only [one, List.headD_cons]
  have P5 := Lib.hid P5
  have L6 := L5.trans K6
  have z6 : w.heap.size + 1 ≤ w6.heap.size := by have := L6.size; simpa using this
  go_wp2_with fail
  refine (r_listGrant p r5 _ R5).mono ?_
  rintro e w7 ⟨K7, ⟨t6, r6, q6, P6, rfl, I6, R6⟩ | ⟨P6, rfl⟩⟩
  case inr => exact ⟨rfl, ((Keeps.refl.alloc _).trans (L6.trans K7)), .inr ⟨(parse_snd P0.out (parse_snd P1.out (parse_snd P2.out (parse_snd P3.out (parse_snd P4.out (parse_snd P5.out P6)))))), rfl⟩⟩
  obtain ⟨a6, l6, c6, rfl⟩ := I6.list_cells
  simp only [one, List.headD_cons]
  have P6 := Lib.hid P6
  have L7 := L6.trans K7
  have z7 : w.heap.size + 1 ≤ w7.heap.size := by have := L7.size; simpa using this
  have hrow := L7.row (heap_alloc_new w (.cells #[.int .i64 0, .int .i64 0, .slice none 0 0, .slice none 0 0, .slice none 0 0, .slice none 0 0, .slice none 0 0] 34)) (show Off p w.heap.size from fun e => by omega)
  have HR := Lib.hid hrow; clear hrow
  have hi : (Tryz.prog.info? 34).map (·.size) = some 7 := by kernel_rfl
  have HI := Lib.hid hi; clear hi
  have J2 : Is w7 (New (w.heap.size + 1) w7.heap.size) (.list shSchema) [.slice a2 l2 c2] t2 := is_later I2 (K4.trans (K5.trans (K6.trans K7))) (show p < w.heap.size + 1 by omega) z2
  have J3 : Is w7 (New (w.heap.size + 1) w7.heap.size) (.list shTable) [.slice a3 l3 c3] t3 := is_later I3 (K5.trans (K6.trans K7)) (show p < w.heap.size + 1 by omega) z3
  have J4 : Is w7 (New (w.heap.size + 1) w7.heap.size) (.list .text) [.slice a4 l4 c4] t4 := is_later I4 (K6.trans K7) (show p < w.heap.size + 1 by omega) z4
  have J5 : Is w7 (New (w.heap.size + 1) w7.heap.size) (.list shMember) [.slice a5 l5 c5] t5 := is_later I5 K7 (show p < w.heap.size + 1 by omega) z5
  have J6 : Is w7 (New (w.heap.size + 1) w7.heap.size) (.list shGrant) [.slice a6 l6 c6] t6 := is_later I6 Keeps.refl (show p < w.heap.size + 1 by omega) z6
  have hI : Is w7 (New (w.heap.size + 1) w7.heap.size) shCatalog [.int .i64 n0, .int .i64 n1, .slice a2 l2 c2, .slice a3 l3 c3, .slice a4 l4 c4, .slice a5 l5 c5, .slice a6 l6 c6] ([Tok.num n0] ++ ([Tok.num n1] ++ (t2 ++ (t3 ++ (t4 ++ (t5 ++ t6)))))) := mk_Catalog lo0 hi0 lo1 hi1 J2 J3 J4 J5 J6
  have h1 := all_oneCell_toArray hI.oneCell
  have hI2 := is_shut (#[.int .i64 n0, .int .i64 n1, .slice a2 l2 c2, .slice a3 l3 c3, .slice a4 l4 c4, .slice a5 l5 c5, .slice a6 l6 c6]) hI
  have hRe := R6.setRow (g := w.heap.size) (by omega) (#[.int .i64 n0, .int .i64 n1, .slice a2 l2 c2, .slice a3 l3 c3, .slice a4 l4 c4, .slice a5 l5 c5, .slice a6 l6 c6])
  have HROW := Lib.hid (setRow_heap w7 w.heap.size _ #[.int .i64 n0, .int .i64 n1, .slice a2 l2 c2, .slice a3 l3 c3, .slice a4 l4 c4, .slice a5 l5 c5, .slice a6 l6 c6] _ _ HR.out)
  have H1 := Lib.hid h1; clear h1
  go_wp2_with (refine wpList_store_row rfl 34 _ _ rfl w.heap.size 34 _ #[.int .i64 n0, .int .i64 n1, .slice a2 l2 c2, .slice a3 l3 c3, .slice a4 l4 c4, .slice a5 l5 c5, .slice a6 l6 c6] rfl rfl HR.out HI.out rfl H1.out ?_)
  refine bodyPost_ret (results_cell_row rfl _ _ w.heap.size _ _ (0, 0) _ rfl HROW.out Tryz.underlying34 rfl HI.out) rfl ?_
  exact ⟨((Keeps.refl.alloc _).trans L7).setRow (Nat.le_refl _) _, .inl ⟨_, _, _, (parse_both P0.out (parse_both P1.out (parse_both P2.out (parse_both P3.out (parse_both P4.out (parse_both P5.out P6.out)))))), rfl, hI2, hRe⟩⟩

set_option maxRecDepth 100000 in
set_option maxHeartbeats 2000000 in
theorem r_machine (p : Nat) (bs : List UInt8) (w : World) (h : Re w p B bs) :
    Calls Tryz.prog 25 #[.pointer (some ⟨p, 0, none⟩)] w (RPost w p B shMachine bs agg) := by
  have hp := h.lt
  go_enter Tryz.func25, Tryz.ntmps25
  go_wp2_with fail
  refine (r_catalog p bs _ (h.alloc _)).mono ?_
  rintro e w1 ⟨K1, ⟨t0, r0, q0, P0, rfl, I0, R0⟩ | ⟨P0, rfl⟩⟩
  case inr => exact ⟨rfl, ((Keeps.refl.alloc _).trans K1), .inr ⟨(parse_fst P0), rfl⟩⟩
  obtain ⟨n0_0, n0_1, a0_2, l0_2, c0_2, a0_3, l0_3, c0_3, a0_4, l0_4, c0_4, a0_5, l0_5, c0_5, a0_6, l0_6, c0_6, rfl⟩ := cells_Catalog I0
  simp only [agg]
  have P0 := Lib.hid P0
  have L1 := K1
  have z1 : w.heap.size + 1 ≤ w1.heap.size := by have := L1.size; simpa using this
  go_wp2_with fail
  refine (r_listDone p r0 _ R0).mono ?_
  rintro e w2 ⟨K2, ⟨t1, r1, q1, P1, rfl, I1, R1⟩ | ⟨P1, rfl⟩⟩
  case inr => exact ⟨rfl, ((Keeps.refl.alloc _).trans (L1.trans K2)), .inr ⟨(parse_snd P0.out (parse_fst P1)), rfl⟩⟩
  obtain ⟨a1, l1, c1, rfl⟩ := I1.list_cells
  simp only [one, List.headD_cons]
  have P1 := Lib.hid P1
  have L2 := L1.trans K2
  have z2 : w.heap.size + 1 ≤ w2.heap.size := by have := L2.size; simpa using this
  go_wp2_with fail
  refine (r_listLease p r1 _ R1).mono ?_
  rintro e w3 ⟨K3, ⟨t2, r2, q2, P2, rfl, I2, R2⟩ | ⟨P2, rfl⟩⟩
  case inr => exact ⟨rfl, ((Keeps.refl.alloc _).trans (L2.trans K3)), .inr ⟨(parse_snd P0.out (parse_snd P1.out (parse_fst P2))), rfl⟩⟩
  obtain ⟨a2, l2, c2, rfl⟩ := I2.list_cells
  simp only [one, List.headD_cons]
  have P2 := Lib.hid P2
  have L3 := L2.trans K3
  have z3 : w.heap.size + 1 ≤ w3.heap.size := by have := L3.size; simpa using this
  go_wp2_with fail
  refine (r_number p r2 _ R2).mono ?_
  rintro e w4 ⟨K4, ⟨t3, r3, q3, P3, rfl, I3, R3⟩ | ⟨P3, rfl⟩⟩
  case inr => exact ⟨rfl, ((Keeps.refl.alloc _).trans (L3.trans K4)), .inr ⟨(parse_snd P0.out (parse_snd P1.out (parse_snd P2.out P3))), rfl⟩⟩
  obtain ⟨n3, lo3, hi3, rfl, rfl⟩ := I3
  simp only [one, List.headD_cons]
  have P3 := Lib.hid P3
  have L4 := L3.trans K4
  have z4 : w.heap.size + 1 ≤ w4.heap.size := by have := L4.size; simpa using this
  have hrow := L4.row (heap_alloc_new w (.cells #[.int .i64 0, .int .i64 0, .slice none 0 0, .slice none 0 0, .slice none 0 0, .slice none 0 0, .slice none 0 0, .slice none 0 0, .slice none 0 0, .int .i64 0] 46)) (show Off p w.heap.size from fun e => by omega)
  have HR := Lib.hid hrow; clear hrow
  have hi : (Tryz.prog.info? 46).map (·.size) = some 10 := by kernel_rfl
  have HI := Lib.hid hi; clear hi
  have J0 : Is w4 (New (w.heap.size + 1) w4.heap.size) shCatalog [.int .i64 n0_0, .int .i64 n0_1, .slice a0_2 l0_2 c0_2, .slice a0_3 l0_3 c0_3, .slice a0_4 l0_4 c0_4, .slice a0_5 l0_5 c0_5, .slice a0_6 l0_6 c0_6] t0 := is_later I0 (K2.trans (K3.trans K4)) (show p < w.heap.size + 1 by omega) (by simp)
  have J1 : Is w4 (New (w.heap.size + 1) w4.heap.size) (.list shDone) [.slice a1 l1 c1] t1 := is_later I1 (K3.trans K4) (show p < w.heap.size + 1 by omega) z1
  have J2 : Is w4 (New (w.heap.size + 1) w4.heap.size) (.list shLease) [.slice a2 l2 c2] t2 := is_later I2 K4 (show p < w.heap.size + 1 by omega) z2
  have hI : Is w4 (New (w.heap.size + 1) w4.heap.size) shMachine [.int .i64 n0_0, .int .i64 n0_1, .slice a0_2 l0_2 c0_2, .slice a0_3 l0_3 c0_3, .slice a0_4 l0_4 c0_4, .slice a0_5 l0_5 c0_5, .slice a0_6 l0_6 c0_6, .slice a1 l1 c1, .slice a2 l2 c2, .int .i64 n3] (t0 ++ (t1 ++ (t2 ++ [Tok.num n3]))) := mk_Machine J0 J1 J2 lo3 hi3
  have h1 := all_oneCell_toArray hI.oneCell
  have hI2 := is_shut (#[.int .i64 n0_0, .int .i64 n0_1, .slice a0_2 l0_2 c0_2, .slice a0_3 l0_3 c0_3, .slice a0_4 l0_4 c0_4, .slice a0_5 l0_5 c0_5, .slice a0_6 l0_6 c0_6, .slice a1 l1 c1, .slice a2 l2 c2, .int .i64 n3]) hI
  have hRe := R3.setRow (g := w.heap.size) (by omega) (#[.int .i64 n0_0, .int .i64 n0_1, .slice a0_2 l0_2 c0_2, .slice a0_3 l0_3 c0_3, .slice a0_4 l0_4 c0_4, .slice a0_5 l0_5 c0_5, .slice a0_6 l0_6 c0_6, .slice a1 l1 c1, .slice a2 l2 c2, .int .i64 n3])
  have HROW := Lib.hid (setRow_heap w4 w.heap.size _ #[.int .i64 n0_0, .int .i64 n0_1, .slice a0_2 l0_2 c0_2, .slice a0_3 l0_3 c0_3, .slice a0_4 l0_4 c0_4, .slice a0_5 l0_5 c0_5, .slice a0_6 l0_6 c0_6, .slice a1 l1 c1, .slice a2 l2 c2, .int .i64 n3] _ _ HR.out)
  have H1 := Lib.hid h1; clear h1
  go_wp2_with (refine wpList_store_row rfl 46 _ _ rfl w.heap.size 46 _ #[.int .i64 n0_0, .int .i64 n0_1, .slice a0_2 l0_2 c0_2, .slice a0_3 l0_3 c0_3, .slice a0_4 l0_4 c0_4, .slice a0_5 l0_5 c0_5, .slice a0_6 l0_6 c0_6, .slice a1 l1 c1, .slice a2 l2 c2, .int .i64 n3] rfl rfl HR.out HI.out rfl H1.out ?_)
  refine bodyPost_ret (results_cell_row rfl _ _ w.heap.size _ _ (0, 0) _ rfl HROW.out Tryz.underlying46 rfl HI.out) rfl ?_
  exact ⟨((Keeps.refl.alloc _).trans L4).setRow (Nat.le_refl _) _, .inl ⟨_, _, _, (parse_both P0.out (parse_both P1.out (parse_both P2.out P3.out))), rfl, hI2, hRe⟩⟩

end Go.Proofs.YtbhpbiimfcdgaaaGreat
