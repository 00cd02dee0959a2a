/-
  The program's writer, by contract: lists of columns; commands, operations (made by wip/gen_wire.py)
-/
import Derived.Test.YtbhpbiimfcdgaaaGreatWireB2
namespace Go.Proofs.YtbhpbiimfcdgaaaGreat
open Go.RowKit
set_option linter.unusedVariables false

set_option maxRecDepth 100000 in
set_option maxHeartbeats 2000000 in
theorem w_listColumn (p : Nat) (S : Nat → Prop) (xs : List UInt8) (a : Option Addr) (l c : Nat) (ts : List Tok) (w : World) (hW : Wr w S p xs) (hI : Is w S (.list shColumn) [.slice a l c] ts) (hroom : Room xs ts) :
    Calls Tryz.prog 103 #[.pointer (some ⟨p, 0, none⟩), .slice a l c, .func (.func 104) #[] #[]] w (WPost w S p xs ts) := by
  obtain ⟨a', l', c', xss, he, hlc, hcm, hxl, hrd, hcase⟩ := hI
  simp only [List.cons.injEq, Value.slice.injEq, and_true] at he
  obtain ⟨rfl, rfl, rfl⟩ := he
  have hl63 : l ≤ 9223372036854775807 := by unfold maxLen at hcm; omega
  have HXL := Lib.hid hxl; clear hxl
  rcases hcase with ⟨hlong, hts⟩ | ⟨tss, hle, htl, hts, hel⟩
  · have HT := Lib.hid hts; clear hts
    go_enter Tryz.func103, Tryz.ntmps103
    go_wp2_with fail
    have hf := firstF_long hlong
    exact ⟨rfl, HT.out ▸ ⟨Keeps.refl, .inr ⟨by rw [hf]; decide, by rw [hf]; rfl⟩⟩⟩
  · have hts : ts = [.many l] ++ tss.flatten := hts
    have R0 : Room xs ([.many l] ++ tss.flatten) := hts ▸ hroom
    have HT := Lib.hid hts; clear hts
    have HTL := Lib.hid htl; clear htl
    have fm : firstF [.many l] = 0 := firstF_cons (fault_many hle)
    have bm : bytesL [.num (l : Int)] = bytesL [.many l] := by simp [bytesL, Tok.bytes]
    have FM := Lib.hid fm; clear fm
    have BM := Lib.hid bm; clear bm
    go_enter Tryz.func103, Tryz.ntmps103
    go_wp2_with fail
    refine (w_number p S _ _ _ hW (show Room xs [.num (l : Int)] from R0.left)).mono ?_
    rintro e w1 ⟨K1, ⟨F1, rfl, W1⟩ | ⟨F1, rfl⟩⟩
    case inr => exact absurd (firstF_cons (fault_num (by omega) (by omega))) F1
    rw [BM.out] at W1
    go_wp2_with fail
    have R1 := R0.right FM.out
    go_loopw [7, 18] (fun _ i wr => ∃ k : Nat, k ≤ l ∧ i = .int .i64 k ∧ Keeps S w wr ∧ firstF (tss.take k).flatten = 0 ∧ Wr wr S p ((xs ++ bytesL [.many l]) ++ bytesL (tss.take k).flatten)) (fun _ i _ => l - (intOf i).toNat)
    case atStart => exact ⟨0, Nat.zero_le _, rfl, K1, rfl, by simpa [bytesL] using W1⟩
    case round =>
      obtain ⟨k, hk, rfl, K2, F2, W2⟩ := hrel
      by_cases hlt : k < l
      · obtain ⟨x, hx⟩ : ∃ x, xss[k]? = some x := ⟨_, List.getElem?_eq_getElem (by rw [HXL.out]; exact hlt)⟩
        obtain ⟨t, ht⟩ : ∃ t, tss[k]? = some t := ⟨_, List.getElem?_eq_getElem (by rw [HTL.out]; exact hlt)⟩
        have hI := (hel k x t hx ht).keep (S' := S) (fun _ h => h) K2
        have hrdk := hrd.keep (S' := S) (fun _ h => h) K2
        have R2 : Room ((xs ++ bytesL [.many l]) ++ bytesL (tss.take k).flatten) t := by
          have := R1; rw [flatten_split ht] at this; exact (this.right F2).left
        have FS := Lib.hid (flatten_succ ht)
        have FP := Lib.hid (flatten_split ht)
        rcases hrdk with h0 | ⟨b, o, rfl, hSb, hcell⟩
        · have := HXL.out; rw [h0] at this; simp at this; omega
        have hc := hcell k x hx
        obtain ⟨s0, n1, b2, rfl⟩ := cells_Column hI
        have hc0 : wr.cell? ⟨b, o + k * 3, none⟩ = some (.string s0) := hc 0 _ rfl
        have hc1 : wr.cell? ⟨b, o + k * 3 + 1, none⟩ = some (.int .i64 n1) := hc 1 _ rfl
        have hc2 : wr.cell? ⟨b, o + k * 3 + 2, none⟩ = some (.bool b2) := hc 2 _ rfl
        have Hx := Lib.hid hx; clear hx
        have Ht := Lib.hid ht; clear ht
        clear hc hcell hrd hel
        have F2 := Lib.hid F2
        go_wp2_with fail
        refine (w_column p S _ _ t _ (W2.alloc _) (hI.keep (fun _ h => h) (Keeps.refl.alloc _)) R2).mono ?_
        rintro e w3 ⟨K3, ⟨F3, rfl, W3⟩ | ⟨F3, rfl⟩⟩
        case inr => exact ⟨rfl, by rw [HT.out, FP.out]; exact WPost.step K2 FM.out (WPost.step Keeps.refl F2.out (WPost.stop ((Keeps.refl.alloc _).trans K3) F3 rfl))⟩
        have F3 := Lib.hid F3
        go_wp2_with fail
        go_roundw
        case rel => exact ⟨k + 1, by omega, by go_num, K2.trans ((Keeps.refl.alloc _).trans K3), by rw [FS.out]; exact firstF_zero.2 ⟨F2.out, F3.out⟩, by rw [FS.out, bytesL_append, ← List.append_assoc]; exact W3⟩
        case measure => simp [intOf]; omega
      · have hkl : k = l := by omega
        have FE := Lib.hid (show (tss.take k).flatten = tss.flatten by rw [List.take_of_length_le (by rw [HTL.out]; omega)])
        have F2 := Lib.hid F2
        clear hkl
        go_wp2_with fail
        go_end0
        have hF := F2.out
        rw [FE.out] at hF W2
        exact HT.out ▸ WPost.step K2 FM.out ⟨Keeps.refl, .inl ⟨hF, rfl, W2⟩⟩

set_option maxRecDepth 100000 in
set_option maxHeartbeats 2000000 in
theorem w_command (p : Nat) (S : Nat → Prop) (xs : List UInt8) (cs : List Value) (ts : List Tok) (w : World) (hW : Wr w S p xs) (hI : Is w S shCommand cs ts) (hroom : Room xs ts) :
    Calls Tryz.prog 85 #[.pointer (some ⟨p, 0, none⟩), .agg cs.toArray] w (WPost w S p xs ts) := by
  obtain ⟨n0, s1, s2, s3, s4, s5, a6, l6, c6, s7_0, n7_1, a7_2, l7_2, c7_2, n7_3, n7_4, s7_5, s7_6, s7_7, n8, b9, t6, t7, rfl, hts, lo0, hi0, hs1, hs2, hs3, hs4, hs5, I6, I7, lo8, hi8⟩ := open_Command hI
  have R0 : Room xs ([Tok.num n0] ++ ([Tok.text s1.data.toList] ++ ([Tok.text s2.data.toList] ++ ([Tok.text s3.data.toList] ++ ([Tok.text s4.data.toList] ++ ([Tok.text s5.data.toList] ++ (t6 ++ (t7 ++ ([Tok.num n8] ++ [Tok.flag b9]))))))))) := hts ▸ hroom
  have HT := Lib.hid hts; clear hts
  have W0 := hW.boxed (.cells #[.int .i64 n0, .string s1, .string s2, .string s3, .string s4, .string s5, .slice a6 l6 c6, .string s7_0, .int .i64 n7_1, .slice a7_2 l7_2 c7_2, .int .i64 n7_3, .int .i64 n7_4, .string s7_5, .string s7_6, .string s7_7, .int .i64 n8, .bool b9] 70)
  have G0 : Keeps S w (w.alloc (.cells #[.int .i64 n0, .string s1, .string s2, .string s3, .string s4, .string s5, .slice a6 l6 c6, .string s7_0, .int .i64 n7_1, .slice a7_2 l7_2 c7_2, .int .i64 n7_3, .int .i64 n7_4, .string s7_5, .string s7_6, .string s7_7, .int .i64 n8, .bool b9] 70)) := Keeps.refl.alloc _
  have H0 := Lib.hid (heap_alloc_new w (.cells #[.int .i64 n0, .string s1, .string s2, .string s3, .string s4, .string s5, .slice a6 l6 c6, .string s7_0, .int .i64 n7_1, .slice a7_2 l7_2 c7_2, .int .i64 n7_3, .int .i64 n7_4, .string s7_5, .string s7_6, .string s7_7, .int .i64 n8, .bool b9] 70))
  go_enter Tryz.func85, Tryz.ntmps85
  go_wp2_with fail
  refine (w_number p (Also S w.heap.size) _ n0 _ W0 R0.left).mono ?_
  rintro e w1 ⟨K1, ⟨F1, rfl, W1⟩ | ⟨F1, rfl⟩⟩
  case inr => exact ⟨rfl, HT.out ▸ WPost.boxed (WPost.stop K1 F1 rfl)⟩
  have R1 := R0.right F1
  have G1 := G0.trans K1.out
  have H1 := Lib.hid (K1.row H0.out Also.new)
  have c1_0 := box_cell H1.out 1 rfl
  have F1 := Lib.hid F1
  go_wp2_with fail
  clear c1_0
  refine (w_text p (Also S w.heap.size) _ s1 _ hs1 W1 R1.left).mono ?_
  rintro e w2 ⟨K2, ⟨F2, rfl, W2⟩ | ⟨F2, rfl⟩⟩
  case inr => exact ⟨rfl, HT.out ▸ WPost.boxed (WPost.step K1 F1.out (WPost.stop K2 F2 rfl))⟩
  have R2 := R1.right F2
  have G2 := G1.trans K2.out
  have H2 := Lib.hid (K2.row H1.out Also.new)
  have c2_0 := box_cell H2.out 2 rfl
  have F2 := Lib.hid F2
  go_wp2_with fail
  clear c2_0
  refine (w_text p (Also S w.heap.size) _ s2 _ hs2 W2 R2.left).mono ?_
  rintro e w3 ⟨K3, ⟨F3, rfl, W3⟩ | ⟨F3, rfl⟩⟩
  case inr => exact ⟨rfl, HT.out ▸ WPost.boxed (WPost.step K1 F1.out (WPost.step K2 F2.out (WPost.stop K3 F3 rfl)))⟩
  have R3 := R2.right F3
  have G3 := G2.trans K3.out
  have H3 := Lib.hid (K3.row H2.out Also.new)
  have c3_0 := box_cell H3.out 3 rfl
  have F3 := Lib.hid F3
  go_wp2_with fail
  clear c3_0
  refine (w_text p (Also S w.heap.size) _ s3 _ hs3 W3 R3.left).mono ?_
  rintro e w4 ⟨K4, ⟨F4, rfl, W4⟩ | ⟨F4, rfl⟩⟩
  case inr => exact ⟨rfl, HT.out ▸ WPost.boxed (WPost.step K1 F1.out (WPost.step K2 F2.out (WPost.step K3 F3.out (WPost.stop K4 F4 rfl))))⟩
  have R4 := R3.right F4
  have G4 := G3.trans K4.out
  have H4 := Lib.hid (K4.row H3.out Also.new)
  have c4_0 := box_cell H4.out 4 rfl
  have F4 := Lib.hid F4
  go_wp2_with fail
  clear c4_0
  refine (w_text p (Also S w.heap.size) _ s4 _ hs4 W4 R4.left).mono ?_
  rintro e w5 ⟨K5, ⟨F5, rfl, W5⟩ | ⟨F5, rfl⟩⟩
  case inr => exact ⟨rfl, HT.out ▸ WPost.boxed (WPost.step K1 F1.out (WPost.step K2 F2.out (WPost.step K3 F3.out (WPost.step K4 F4.out (WPost.stop K5 F5 rfl)))))⟩
  have R5 := R4.right F5
  have G5 := G4.trans K5.out
  have H5 := Lib.hid (K5.row H4.out Also.new)
  have c5_0 := box_cell H5.out 5 rfl
  have F5 := Lib.hid F5
  go_wp2_with fail
  clear c5_0
  refine (w_text p (Also S w.heap.size) _ s5 _ hs5 W5 R5.left).mono ?_
  rintro e w6 ⟨K6, ⟨F6, rfl, W6⟩ | ⟨F6, rfl⟩⟩
  case inr => exact ⟨rfl, HT.out ▸ WPost.boxed (WPost.step K1 F1.out (WPost.step K2 F2.out (WPost.step K3 F3.out (WPost.step K4 F4.out (WPost.step K5 F5.out (WPost.stop K6 F6 rfl))))))⟩
  have R6 := R5.right F6
  have G6 := G5.trans K6.out
  have H6 := Lib.hid (K6.row H5.out Also.new)
  have c6_0 := box_cell H6.out 6 rfl
  have F6 := Lib.hid F6
  go_wp2_with fail
  clear c6_0
  refine (w_listColumn p (Also S w.heap.size) _ a6 l6 c6 _ _ W6 (I6.keep (fun _ => .inl) G6) R6.left).mono ?_
  rintro e w7 ⟨K7, ⟨F7, rfl, W7⟩ | ⟨F7, rfl⟩⟩
  case inr => exact ⟨rfl, HT.out ▸ WPost.boxed (WPost.step K1 F1.out (WPost.step K2 F2.out (WPost.step K3 F3.out (WPost.step K4 F4.out (WPost.step K5 F5.out (WPost.step K6 F6.out (WPost.stop K7 F7 rfl)))))))⟩
  have R7 := R6.right F7
  have G7 := G6.trans K7.out
  have H7 := Lib.hid (K7.row H6.out Also.new)
  have c7_0 := box_cell H7.out 7 rfl
  have c7_1 := box_cell H7.out 8 rfl
  have c7_2 := box_cell H7.out 9 rfl
  have c7_3 := box_cell H7.out 10 rfl
  have c7_4 := box_cell H7.out 11 rfl
  have c7_5 := box_cell H7.out 12 rfl
  have c7_6 := box_cell H7.out 13 rfl
  have c7_7 := box_cell H7.out 14 rfl
  have F7 := Lib.hid F7
  go_wp2_with fail
  clear c7_0 c7_1 c7_2 c7_3 c7_4 c7_5 c7_6 c7_7
  refine (w_rule p (Also S w.heap.size) _ _ _ _ W7 (I7.keep (fun _ => .inl) G7) R7.left).mono ?_
  rintro e w8 ⟨K8, ⟨F8, rfl, W8⟩ | ⟨F8, rfl⟩⟩
  case inr => exact ⟨rfl, HT.out ▸ WPost.boxed (WPost.step K1 F1.out (WPost.step K2 F2.out (WPost.step K3 F3.out (WPost.step K4 F4.out (WPost.step K5 F5.out (WPost.step K6 F6.out (WPost.step K7 F7.out (WPost.stop K8 F8 rfl))))))))⟩
  have R8 := R7.right F8
  have G8 := G7.trans K8.out
  have H8 := Lib.hid (K8.row H7.out Also.new)
  have c8_0 := box_cell H8.out 15 rfl
  have F8 := Lib.hid F8
  go_wp2_with fail
  clear c8_0
  refine (w_number p (Also S w.heap.size) _ n8 _ W8 R8.left).mono ?_
  rintro e w9 ⟨K9, ⟨F9, rfl, W9⟩ | ⟨F9, rfl⟩⟩
  case inr => exact ⟨rfl, HT.out ▸ WPost.boxed (WPost.step K1 F1.out (WPost.step K2 F2.out (WPost.step K3 F3.out (WPost.step K4 F4.out (WPost.step K5 F5.out (WPost.step K6 F6.out (WPost.step K7 F7.out (WPost.step K8 F8.out (WPost.stop K9 F9 rfl)))))))))⟩
  have R9 := R8.right F9
  have G9 := G8.trans K9.out
  have H9 := Lib.hid (K9.row H8.out Also.new)
  have c9_0 := box_cell H9.out 16 rfl
  have F9 := Lib.hid F9
  go_wp2_with fail
  clear c9_0
  refine (w_truth p (Also S w.heap.size) _ b9 _ W9 R9).mono ?_
  rintro e w10 ⟨K10, ⟨F10, rfl, W10⟩ | ⟨F10, rfl⟩⟩
  case inr => exact ⟨rfl, HT.out ▸ WPost.boxed (WPost.step K1 F1.out (WPost.step K2 F2.out (WPost.step K3 F3.out (WPost.step K4 F4.out (WPost.step K5 F5.out (WPost.step K6 F6.out (WPost.step K7 F7.out (WPost.step K8 F8.out (WPost.step K9 F9.out ⟨K10, .inr ⟨F10, rfl⟩⟩)))))))))⟩
  have F10 := Lib.hid F10
  go_wp2_with fail
  go_end0
  exact HT.out ▸ WPost.boxed (WPost.step K1 F1.out (WPost.step K2 F2.out (WPost.step K3 F3.out (WPost.step K4 F4.out (WPost.step K5 F5.out (WPost.step K6 F6.out (WPost.step K7 F7.out (WPost.step K8 F8.out (WPost.step K9 F9.out ⟨K10, .inl ⟨F10.out, rfl, W10⟩⟩)))))))))

set_option maxRecDepth 100000 in
set_option maxHeartbeats 2000000 in
theorem w_op (p : Nat) (S : Nat → Prop) (xs : List UInt8) (cs : List Value) (ts : List Tok) (w : World) (hW : Wr w S p xs) (hI : Is w S shOp cs ts) (hroom : Room xs ts) :
    Calls Tryz.prog 56 #[.pointer (some ⟨p, 0, none⟩), .agg cs.toArray] w (WPost w S p xs ts) := by
  obtain ⟨n0, n1, n2, n3_0, s3_1, s3_2, s3_3, s3_4, s3_5, a3_6, l3_6, c3_6, s3_7_0, n3_7_1, a3_7_2, l3_7_2, c3_7_2, n3_7_3, n3_7_4, s3_7_5, s3_7_6, s3_7_7, n3_8, b3_9, n4, n5, n6, t3, rfl, hts, lo0, hi0, lo1, hi1, lo2, hi2, I3, lo4, hi4, lo5, hi5, lo6, hi6⟩ := open_Op hI
  have R0 : Room xs ([Tok.num n0] ++ ([Tok.num n1] ++ ([Tok.num n2] ++ (t3 ++ ([Tok.num n4] ++ ([Tok.num n5] ++ [Tok.num n6])))))) := hts ▸ hroom
  have HT := Lib.hid hts; clear hts
  have W0 := hW.boxed (.cells #[.int .i64 n0, .int .i64 n1, .int .i64 n2, .int .i64 n3_0, .string s3_1, .string s3_2, .string s3_3, .string s3_4, .string s3_5, .slice a3_6 l3_6 c3_6, .string s3_7_0, .int .i64 n3_7_1, .slice a3_7_2 l3_7_2 c3_7_2, .int .i64 n3_7_3, .int .i64 n3_7_4, .string s3_7_5, .string s3_7_6, .string s3_7_7, .int .i64 n3_8, .bool b3_9, .int .i64 n4, .int .i64 n5, .int .i64 n6] 72)
  have G0 : Keeps S w (w.alloc (.cells #[.int .i64 n0, .int .i64 n1, .int .i64 n2, .int .i64 n3_0, .string s3_1, .string s3_2, .string s3_3, .string s3_4, .string s3_5, .slice a3_6 l3_6 c3_6, .string s3_7_0, .int .i64 n3_7_1, .slice a3_7_2 l3_7_2 c3_7_2, .int .i64 n3_7_3, .int .i64 n3_7_4, .string s3_7_5, .string s3_7_6, .string s3_7_7, .int .i64 n3_8, .bool b3_9, .int .i64 n4, .int .i64 n5, .int .i64 n6] 72)) := Keeps.refl.alloc _
  have H0 := Lib.hid (heap_alloc_new w (.cells #[.int .i64 n0, .int .i64 n1, .int .i64 n2, .int .i64 n3_0, .string s3_1, .string s3_2, .string s3_3, .string s3_4, .string s3_5, .slice a3_6 l3_6 c3_6, .string s3_7_0, .int .i64 n3_7_1, .slice a3_7_2 l3_7_2 c3_7_2, .int .i64 n3_7_3, .int .i64 n3_7_4, .string s3_7_5, .string s3_7_6, .string s3_7_7, .int .i64 n3_8, .bool b3_9, .int .i64 n4, .int .i64 n5, .int .i64 n6] 72))
  go_enter Tryz.func56, Tryz.ntmps56
  go_wp2_with fail
  refine (w_number p (Also S w.heap.size) _ n0 _ W0 R0.left).mono ?_
  rintro e w1 ⟨K1, ⟨F1, rfl, W1⟩ | ⟨F1, rfl⟩⟩
  case inr => exact ⟨rfl, HT.out ▸ WPost.boxed (WPost.stop K1 F1 rfl)⟩
  have R1 := R0.right F1
  have G1 := G0.trans K1.out
  have H1 := Lib.hid (K1.row H0.out Also.new)
  have c1_0 := box_cell H1.out 1 rfl
  have F1 := Lib.hid F1
  go_wp2_with fail
  clear c1_0
  refine (w_number p (Also S w.heap.size) _ n1 _ W1 R1.left).mono ?_
  rintro e w2 ⟨K2, ⟨F2, rfl, W2⟩ | ⟨F2, rfl⟩⟩
  case inr => exact ⟨rfl, HT.out ▸ WPost.boxed (WPost.step K1 F1.out (WPost.stop K2 F2 rfl))⟩
  have R2 := R1.right F2
  have G2 := G1.trans K2.out
  have H2 := Lib.hid (K2.row H1.out Also.new)
  have c2_0 := box_cell H2.out 2 rfl
  have F2 := Lib.hid F2
  go_wp2_with fail
  clear c2_0
  refine (w_number p (Also S w.heap.size) _ n2 _ W2 R2.left).mono ?_
  rintro e w3 ⟨K3, ⟨F3, rfl, W3⟩ | ⟨F3, rfl⟩⟩
  case inr => exact ⟨rfl, HT.out ▸ WPost.boxed (WPost.step K1 F1.out (WPost.step K2 F2.out (WPost.stop K3 F3 rfl)))⟩
  have R3 := R2.right F3
  have G3 := G2.trans K3.out
  have H3 := Lib.hid (K3.row H2.out Also.new)
  have c3_0 := box_cell H3.out 3 rfl
  have c3_1 := box_cell H3.out 4 rfl
  have c3_2 := box_cell H3.out 5 rfl
  have c3_3 := box_cell H3.out 6 rfl
  have c3_4 := box_cell H3.out 7 rfl
  have c3_5 := box_cell H3.out 8 rfl
  have c3_6 := box_cell H3.out 9 rfl
  have c3_7 := box_cell H3.out 10 rfl
  have c3_8 := box_cell H3.out 11 rfl
  have c3_9 := box_cell H3.out 12 rfl
  have c3_10 := box_cell H3.out 13 rfl
  have c3_11 := box_cell H3.out 14 rfl
  have c3_12 := box_cell H3.out 15 rfl
  have c3_13 := box_cell H3.out 16 rfl
  have c3_14 := box_cell H3.out 17 rfl
  have c3_15 := box_cell H3.out 18 rfl
  have c3_16 := box_cell H3.out 19 rfl
  have F3 := Lib.hid F3
  go_wp2_with fail
  clear c3_0 c3_1 c3_2 c3_3 c3_4 c3_5 c3_6 c3_7 c3_8 c3_9 c3_10 c3_11 c3_12 c3_13 c3_14 c3_15 c3_16
  refine (w_command p (Also S w.heap.size) _ _ _ _ W3 (I3.keep (fun _ => .inl) G3) R3.left).mono ?_
  rintro e w4 ⟨K4, ⟨F4, rfl, W4⟩ | ⟨F4, rfl⟩⟩
  case inr => exact ⟨rfl, HT.out ▸ WPost.boxed (WPost.step K1 F1.out (WPost.step K2 F2.out (WPost.step K3 F3.out (WPost.stop K4 F4 rfl))))⟩
  have R4 := R3.right F4
  have G4 := G3.trans K4.out
  have H4 := Lib.hid (K4.row H3.out Also.new)
  have c4_0 := box_cell H4.out 20 rfl
  have F4 := Lib.hid F4
  go_wp2_with fail
  clear c4_0
  refine (w_number p (Also S w.heap.size) _ n4 _ W4 R4.left).mono ?_
  rintro e w5 ⟨K5, ⟨F5, rfl, W5⟩ | ⟨F5, rfl⟩⟩
  case inr => exact ⟨rfl, HT.out ▸ WPost.boxed (WPost.step K1 F1.out (WPost.step K2 F2.out (WPost.step K3 F3.out (WPost.step K4 F4.out (WPost.stop K5 F5 rfl)))))⟩
  have R5 := R4.right F5
  have G5 := G4.trans K5.out
  have H5 := Lib.hid (K5.row H4.out Also.new)
  have c5_0 := box_cell H5.out 21 rfl
  have F5 := Lib.hid F5
  go_wp2_with fail
  clear c5_0
  refine (w_number p (Also S w.heap.size) _ n5 _ W5 R5.left).mono ?_
  rintro e w6 ⟨K6, ⟨F6, rfl, W6⟩ | ⟨F6, rfl⟩⟩
  case inr => exact ⟨rfl, HT.out ▸ WPost.boxed (WPost.step K1 F1.out (WPost.step K2 F2.out (WPost.step K3 F3.out (WPost.step K4 F4.out (WPost.step K5 F5.out (WPost.stop K6 F6 rfl))))))⟩
  have R6 := R5.right F6
  have G6 := G5.trans K6.out
  have H6 := Lib.hid (K6.row H5.out Also.new)
  have c6_0 := box_cell H6.out 22 rfl
  have F6 := Lib.hid F6
  go_wp2_with fail
  clear c6_0
  refine (w_number p (Also S w.heap.size) _ n6 _ W6 R6).mono ?_
  rintro e w7 ⟨K7, ⟨F7, rfl, W7⟩ | ⟨F7, rfl⟩⟩
  case inr => exact ⟨rfl, HT.out ▸ WPost.boxed (WPost.step K1 F1.out (WPost.step K2 F2.out (WPost.step K3 F3.out (WPost.step K4 F4.out (WPost.step K5 F5.out (WPost.step K6 F6.out ⟨K7, .inr ⟨F7, rfl⟩⟩))))))⟩
  have F7 := Lib.hid F7
  go_wp2_with fail
  go_end0
  exact HT.out ▸ WPost.boxed (WPost.step K1 F1.out (WPost.step K2 F2.out (WPost.step K3 F3.out (WPost.step K4 F4.out (WPost.step K5 F5.out (WPost.step K6 F6.out ⟨K7, .inl ⟨F7.out, rfl, W7⟩⟩))))))

end Go.Proofs.YtbhpbiimfcdgaaaGreat
