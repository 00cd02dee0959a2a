/-
  The program's writer, by contract: rules, configurations, entries, records (made by wip/gen_wire.py)
-/
import Derived.Test.YtbhpbiimfcdgaaaGreatWireB1
namespace Go.Proofs.YtbhpbiimfcdgaaaGreat
open Go.RowKit
set_option linter.unusedVariables false

set_option maxRecDepth 100000 in
set_option maxHeartbeats 2000000 in
theorem w_rule (p : Nat) (S : Nat → Prop) (xs : List UInt8) (cs : List Value) (ts : List Tok) (w : World) (hW : Wr w S p xs) (hI : Is w S shRule cs ts) (hroom : Room xs ts) :
    Calls Tryz.prog 105 #[.pointer (some ⟨p, 0, none⟩), .agg cs.toArray] w (WPost w S p xs ts) := by
  obtain ⟨s0, n1, a2, l2, c2, n3, n4, s5, s6, s7, t2, rfl, hts, hs0, lo1, hi1, I2, lo3, hi3, lo4, hi4, hs5, hs6, hs7⟩ := open_Rule hI
  have R0 : Room xs ([Tok.text s0.data.toList] ++ ([Tok.num n1] ++ (t2 ++ ([Tok.whole n3] ++ ([Tok.whole n4] ++ ([Tok.text s5.data.toList] ++ ([Tok.text s6.data.toList] ++ [Tok.text s7.data.toList]))))))) := hts ▸ hroom
  have HT := Lib.hid hts; clear hts
  have W0 := hW.boxed (.cells #[.string s0, .int .i64 n1, .slice a2 l2 c2, .int .i64 n3, .int .i64 n4, .string s5, .string s6, .string s7] 67)
  have G0 : Keeps S w (w.alloc (.cells #[.string s0, .int .i64 n1, .slice a2 l2 c2, .int .i64 n3, .int .i64 n4, .string s5, .string s6, .string s7] 67)) := Keeps.refl.alloc _
  have H0 := Lib.hid (heap_alloc_new w (.cells #[.string s0, .int .i64 n1, .slice a2 l2 c2, .int .i64 n3, .int .i64 n4, .string s5, .string s6, .string s7] 67))
  go_enter Tryz.func105, Tryz.ntmps105
  go_wp2_with fail
  refine (w_text p (Also S w.heap.size) _ s0 _ hs0 W0 R0.left).mono ?_
  rintro e w1 ⟨K1, ⟨F1, rfl, W1⟩ | ⟨F1, rfl⟩⟩
  case inr => exact ⟨rfl, HT.out ▸ WPost.boxed (WPost.stop K1 F1 rfl)⟩
  have R1 := R0.right F1
  have G1 := G0.trans K1.out
  have H1 := Lib.hid (K1.row H0.out Also.new)
  have c1_0 := box_cell H1.out 1 rfl
  have F1 := Lib.hid F1
  go_wp2_with fail
  clear c1_0
  refine (w_number p (Also S w.heap.size) _ n1 _ W1 R1.left).mono ?_
  rintro e w2 ⟨K2, ⟨F2, rfl, W2⟩ | ⟨F2, rfl⟩⟩
  case inr => exact ⟨rfl, HT.out ▸ WPost.boxed (WPost.step K1 F1.out (WPost.stop K2 F2 rfl))⟩
  have R2 := R1.right F2
  have G2 := G1.trans K2.out
  have H2 := Lib.hid (K2.row H1.out Also.new)
  have c2_0 := box_cell H2.out 2 rfl
  have F2 := Lib.hid F2
  go_wp2_with fail
  clear c2_0
  refine (w_listText p (Also S w.heap.size) _ a2 l2 c2 _ _ W2 (I2.keep (fun _ => .inl) G2) R2.left).mono ?_
  rintro e w3 ⟨K3, ⟨F3, rfl, W3⟩ | ⟨F3, rfl⟩⟩
  case inr => exact ⟨rfl, HT.out ▸ WPost.boxed (WPost.step K1 F1.out (WPost.step K2 F2.out (WPost.stop K3 F3 rfl)))⟩
  have R3 := R2.right F3
  have G3 := G2.trans K3.out
  have H3 := Lib.hid (K3.row H2.out Also.new)
  have c3_0 := box_cell H3.out 3 rfl
  have F3 := Lib.hid F3
  go_wp2_with fail
  clear c3_0
  refine (w_whole p (Also S w.heap.size) _ n3 _ W3 R3.left).mono ?_
  rintro e w4 ⟨K4, ⟨F4, rfl, W4⟩ | ⟨F4, rfl⟩⟩
  case inr => exact ⟨rfl, HT.out ▸ WPost.boxed (WPost.step K1 F1.out (WPost.step K2 F2.out (WPost.step K3 F3.out (WPost.stop K4 F4 rfl))))⟩
  have R4 := R3.right F4
  have G4 := G3.trans K4.out
  have H4 := Lib.hid (K4.row H3.out Also.new)
  have c4_0 := box_cell H4.out 4 rfl
  have F4 := Lib.hid F4
  go_wp2_with fail
  clear c4_0
  refine (w_whole p (Also S w.heap.size) _ n4 _ W4 R4.left).mono ?_
  rintro e w5 ⟨K5, ⟨F5, rfl, W5⟩ | ⟨F5, rfl⟩⟩
  case inr => exact ⟨rfl, HT.out ▸ WPost.boxed (WPost.step K1 F1.out (WPost.step K2 F2.out (WPost.step K3 F3.out (WPost.step K4 F4.out (WPost.stop K5 F5 rfl)))))⟩
  have R5 := R4.right F5
  have G5 := G4.trans K5.out
  have H5 := Lib.hid (K5.row H4.out Also.new)
  have c5_0 := box_cell H5.out 5 rfl
  have F5 := Lib.hid F5
  go_wp2_with fail
  clear c5_0
  refine (w_text p (Also S w.heap.size) _ s5 _ hs5 W5 R5.left).mono ?_
  rintro e w6 ⟨K6, ⟨F6, rfl, W6⟩ | ⟨F6, rfl⟩⟩
  case inr => exact ⟨rfl, HT.out ▸ WPost.boxed (WPost.step K1 F1.out (WPost.step K2 F2.out (WPost.step K3 F3.out (WPost.step K4 F4.out (WPost.step K5 F5.out (WPost.stop K6 F6 rfl))))))⟩
  have R6 := R5.right F6
  have G6 := G5.trans K6.out
  have H6 := Lib.hid (K6.row H5.out Also.new)
  have c6_0 := box_cell H6.out 6 rfl
  have F6 := Lib.hid F6
  go_wp2_with fail
  clear c6_0
  refine (w_text p (Also S w.heap.size) _ s6 _ hs6 W6 R6.left).mono ?_
  rintro e w7 ⟨K7, ⟨F7, rfl, W7⟩ | ⟨F7, rfl⟩⟩
  case inr => exact ⟨rfl, HT.out ▸ WPost.boxed (WPost.step K1 F1.out (WPost.step K2 F2.out (WPost.step K3 F3.out (WPost.step K4 F4.out (WPost.step K5 F5.out (WPost.step K6 F6.out (WPost.stop K7 F7 rfl)))))))⟩
  have R7 := R6.right F7
  have G7 := G6.trans K7.out
  have H7 := Lib.hid (K7.row H6.out Also.new)
  have c7_0 := box_cell H7.out 7 rfl
  have F7 := Lib.hid F7
  go_wp2_with fail
  clear c7_0
  refine (w_text p (Also S w.heap.size) _ s7 _ hs7 W7 R7).mono ?_
  rintro e w8 ⟨K8, ⟨F8, rfl, W8⟩ | ⟨F8, rfl⟩⟩
  case inr => exact ⟨rfl, HT.out ▸ WPost.boxed (WPost.step K1 F1.out (WPost.step K2 F2.out (WPost.step K3 F3.out (WPost.step K4 F4.out (WPost.step K5 F5.out (WPost.step K6 F6.out (WPost.step K7 F7.out ⟨K8, .inr ⟨F8, rfl⟩⟩)))))))⟩
  have F8 := Lib.hid F8
  go_wp2_with fail
  go_end0
  exact HT.out ▸ WPost.boxed (WPost.step K1 F1.out (WPost.step K2 F2.out (WPost.step K3 F3.out (WPost.step K4 F4.out (WPost.step K5 F5.out (WPost.step K6 F6.out (WPost.step K7 F7.out ⟨K8, .inl ⟨F8.out, rfl, W8⟩⟩)))))))

set_option maxRecDepth 100000 in
set_option maxHeartbeats 2000000 in
theorem w_config (p : Nat) (S : Nat → Prop) (xs : List UInt8) (cs : List Value) (ts : List Tok) (w : World) (hW : Wr w S p xs) (hI : Is w S shConfig cs ts) (hroom : Room xs ts) :
    Calls Tryz.prog 107 #[.pointer (some ⟨p, 0, none⟩), .agg cs.toArray] w (WPost w S p xs ts) := by
  obtain ⟨a0, l0, c0, a1, l1, c1, t0, t1, rfl, hts, I0, I1⟩ := open_Config hI
  have R0 : Room xs (t0 ++ t1) := hts ▸ hroom
  have HT := Lib.hid hts; clear hts
  have W0 := hW.boxed (.cells #[.slice a0 l0 c0, .slice a1 l1 c1] 81)
  have G0 : Keeps S w (w.alloc (.cells #[.slice a0 l0 c0, .slice a1 l1 c1] 81)) := Keeps.refl.alloc _
  have H0 := Lib.hid (heap_alloc_new w (.cells #[.slice a0 l0 c0, .slice a1 l1 c1] 81))
  go_enter Tryz.func107, Tryz.ntmps107
  go_wp2_with fail
  refine (w_listNum p (Also S w.heap.size) _ a0 l0 c0 _ _ W0 (I0.keep (fun _ => .inl) G0) R0.left).mono ?_
  rintro e w1 ⟨K1, ⟨F1, rfl, W1⟩ | ⟨F1, rfl⟩⟩
  case inr => exact ⟨rfl, HT.out ▸ WPost.boxed (WPost.stop K1 F1 rfl)⟩
  have R1 := R0.right F1
  have G1 := G0.trans K1.out
  have H1 := Lib.hid (K1.row H0.out Also.new)
  have c1_0 := box_cell H1.out 1 rfl
  have F1 := Lib.hid F1
  go_wp2_with fail
  clear c1_0
  refine (w_listNum p (Also S w.heap.size) _ a1 l1 c1 _ _ W1 (I1.keep (fun _ => .inl) G1) R1).mono ?_
  rintro e w2 ⟨K2, ⟨F2, rfl, W2⟩ | ⟨F2, rfl⟩⟩
  case inr => exact ⟨rfl, HT.out ▸ WPost.boxed (WPost.step K1 F1.out ⟨K2, .inr ⟨F2, rfl⟩⟩)⟩
  have F2 := Lib.hid F2
  go_wp2_with fail
  go_end0
  exact HT.out ▸ WPost.boxed (WPost.step K1 F1.out ⟨K2, .inl ⟨F2.out, rfl, W2⟩⟩)

set_option maxRecDepth 100000 in
set_option maxHeartbeats 2000000 in
theorem w_entry (p : Nat) (S : Nat → Prop) (xs : List UInt8) (cs : List Value) (ts : List Tok) (w : World) (hW : Wr w S p xs) (hI : Is w S shEntry cs ts) (hroom : Room xs ts) :
    Calls Tryz.prog 89 #[.pointer (some ⟨p, 0, none⟩), .agg cs.toArray] w (WPost w S p xs ts) := by
  obtain ⟨n0, n1, n2, a3_0, l3_0, c3_0, a3_1, l3_1, c3_1, s4, t3, rfl, hts, lo0, hi0, lo1, hi1, lo2, hi2, I3, hs4⟩ := open_Entry hI
  have R0 : Room xs ([Tok.num n0] ++ ([Tok.num n1] ++ ([Tok.num n2] ++ (t3 ++ [Tok.text s4.data.toList])))) := hts ▸ hroom
  have HT := Lib.hid hts; clear hts
  have W0 := hW.boxed (.cells #[.int .i64 n0, .int .i64 n1, .int .i64 n2, .slice a3_0 l3_0 c3_0, .slice a3_1 l3_1 c3_1, .string s4] 83)
  have G0 : Keeps S w (w.alloc (.cells #[.int .i64 n0, .int .i64 n1, .int .i64 n2, .slice a3_0 l3_0 c3_0, .slice a3_1 l3_1 c3_1, .string s4] 83)) := Keeps.refl.alloc _
  have H0 := Lib.hid (heap_alloc_new w (.cells #[.int .i64 n0, .int .i64 n1, .int .i64 n2, .slice a3_0 l3_0 c3_0, .slice a3_1 l3_1 c3_1, .string s4] 83))
  go_enter Tryz.func89, Tryz.ntmps89
  go_wp2_with fail
  refine (w_number p (Also S w.heap.size) _ n0 _ W0 R0.left).mono ?_
  rintro e w1 ⟨K1, ⟨F1, rfl, W1⟩ | ⟨F1, rfl⟩⟩
  case inr => exact ⟨rfl, HT.out ▸ WPost.boxed (WPost.stop K1 F1 rfl)⟩
  have R1 := R0.right F1
  have G1 := G0.trans K1.out
  have H1 := Lib.hid (K1.row H0.out Also.new)
  have c1_0 := box_cell H1.out 1 rfl
  have F1 := Lib.hid F1
  go_wp2_with fail
  clear c1_0
  refine (w_number p (Also S w.heap.size) _ n1 _ W1 R1.left).mono ?_
  rintro e w2 ⟨K2, ⟨F2, rfl, W2⟩ | ⟨F2, rfl⟩⟩
  case inr => exact ⟨rfl, HT.out ▸ WPost.boxed (WPost.step K1 F1.out (WPost.stop K2 F2 rfl))⟩
  have R2 := R1.right F2
  have G2 := G1.trans K2.out
  have H2 := Lib.hid (K2.row H1.out Also.new)
  have c2_0 := box_cell H2.out 2 rfl
  have F2 := Lib.hid F2
  go_wp2_with fail
  clear c2_0
  refine (w_number p (Also S w.heap.size) _ n2 _ W2 R2.left).mono ?_
  rintro e w3 ⟨K3, ⟨F3, rfl, W3⟩ | ⟨F3, rfl⟩⟩
  case inr => exact ⟨rfl, HT.out ▸ WPost.boxed (WPost.step K1 F1.out (WPost.step K2 F2.out (WPost.stop K3 F3 rfl)))⟩
  have R3 := R2.right F3
  have G3 := G2.trans K3.out
  have H3 := Lib.hid (K3.row H2.out Also.new)
  have c3_0 := box_cell H3.out 3 rfl
  have c3_1 := box_cell H3.out 4 rfl
  have F3 := Lib.hid F3
  go_wp2_with fail
  clear c3_0 c3_1
  refine (w_config p (Also S w.heap.size) _ _ _ _ W3 (I3.keep (fun _ => .inl) G3) R3.left).mono ?_
  rintro e w4 ⟨K4, ⟨F4, rfl, W4⟩ | ⟨F4, rfl⟩⟩
  case inr => exact ⟨rfl, HT.out ▸ WPost.boxed (WPost.step K1 F1.out (WPost.step K2 F2.out (WPost.step K3 F3.out (WPost.stop K4 F4 rfl))))⟩
  have R4 := R3.right F4
  have G4 := G3.trans K4.out
  have H4 := Lib.hid (K4.row H3.out Also.new)
  have c4_0 := box_cell H4.out 5 rfl
  have F4 := Lib.hid F4
  go_wp2_with fail
  clear c4_0
  refine (w_text p (Also S w.heap.size) _ s4 _ hs4 W4 R4).mono ?_
  rintro e w5 ⟨K5, ⟨F5, rfl, W5⟩ | ⟨F5, rfl⟩⟩
  case inr => exact ⟨rfl, HT.out ▸ WPost.boxed (WPost.step K1 F1.out (WPost.step K2 F2.out (WPost.step K3 F3.out (WPost.step K4 F4.out ⟨K5, .inr ⟨F5, rfl⟩⟩))))⟩
  have F5 := Lib.hid F5
  go_wp2_with fail
  go_end0
  exact HT.out ▸ WPost.boxed (WPost.step K1 F1.out (WPost.step K2 F2.out (WPost.step K3 F3.out (WPost.step K4 F4.out ⟨K5, .inl ⟨F5.out, rfl, W5⟩⟩))))

set_option maxRecDepth 100000 in
set_option maxHeartbeats 2000000 in
theorem w_snapshot (p : Nat) (S : Nat → Prop) (xs : List UInt8) (cs : List Value) (ts : List Tok) (w : World) (hW : Wr w S p xs) (hI : Is w S shSnapshot cs ts) (hroom : Room xs ts) :
    Calls Tryz.prog 90 #[.pointer (some ⟨p, 0, none⟩), .agg cs.toArray] w (WPost w S p xs ts) := by
  obtain ⟨n0, n1, a2_0, l2_0, c2_0, a2_1, l2_1, c2_1, s3, t2, rfl, hts, lo0, hi0, lo1, hi1, I2, hs3⟩ := open_Snapshot hI
  have R0 : Room xs ([Tok.num n0] ++ ([Tok.num n1] ++ (t2 ++ [Tok.text s3.data.toList]))) := hts ▸ hroom
  have HT := Lib.hid hts; clear hts
  have W0 := hW.boxed (.cells #[.int .i64 n0, .int .i64 n1, .slice a2_0 l2_0 c2_0, .slice a2_1 l2_1 c2_1, .string s3] 85)
  have G0 : Keeps S w (w.alloc (.cells #[.int .i64 n0, .int .i64 n1, .slice a2_0 l2_0 c2_0, .slice a2_1 l2_1 c2_1, .string s3] 85)) := Keeps.refl.alloc _
  have H0 := Lib.hid (heap_alloc_new w (.cells #[.int .i64 n0, .int .i64 n1, .slice a2_0 l2_0 c2_0, .slice a2_1 l2_1 c2_1, .string s3] 85))
  go_enter Tryz.func90, Tryz.ntmps90
  go_wp2_with fail
  refine (w_number p (Also S w.heap.size) _ n0 _ W0 R0.left).mono ?_
  rintro e w1 ⟨K1, ⟨F1, rfl, W1⟩ | ⟨F1, rfl⟩⟩
  case inr => exact ⟨rfl, HT.out ▸ WPost.boxed (WPost.stop K1 F1 rfl)⟩
  have R1 := R0.right F1
  have G1 := G0.trans K1.out
  have H1 := Lib.hid (K1.row H0.out Also.new)
  have c1_0 := box_cell H1.out 1 rfl
  have F1 := Lib.hid F1
  go_wp2_with fail
  clear c1_0
  refine (w_number p (Also S w.heap.size) _ n1 _ W1 R1.left).mono ?_
  rintro e w2 ⟨K2, ⟨F2, rfl, W2⟩ | ⟨F2, rfl⟩⟩
  case inr => exact ⟨rfl, HT.out ▸ WPost.boxed (WPost.step K1 F1.out (WPost.stop K2 F2 rfl))⟩
  have R2 := R1.right F2
  have G2 := G1.trans K2.out
  have H2 := Lib.hid (K2.row H1.out Also.new)
  have c2_0 := box_cell H2.out 2 rfl
  have c2_1 := box_cell H2.out 3 rfl
  have F2 := Lib.hid F2
  go_wp2_with fail
  clear c2_0 c2_1
  refine (w_config p (Also S w.heap.size) _ _ _ _ W2 (I2.keep (fun _ => .inl) G2) R2.left).mono ?_
  rintro e w3 ⟨K3, ⟨F3, rfl, W3⟩ | ⟨F3, rfl⟩⟩
  case inr => exact ⟨rfl, HT.out ▸ WPost.boxed (WPost.step K1 F1.out (WPost.step K2 F2.out (WPost.stop K3 F3 rfl)))⟩
  have R3 := R2.right F3
  have G3 := G2.trans K3.out
  have H3 := Lib.hid (K3.row H2.out Also.new)
  have c3_0 := box_cell H3.out 4 rfl
  have F3 := Lib.hid F3
  go_wp2_with fail
  clear c3_0
  refine (w_text p (Also S w.heap.size) _ s3 _ hs3 W3 R3).mono ?_
  rintro e w4 ⟨K4, ⟨F4, rfl, W4⟩ | ⟨F4, rfl⟩⟩
  case inr => exact ⟨rfl, HT.out ▸ WPost.boxed (WPost.step K1 F1.out (WPost.step K2 F2.out (WPost.step K3 F3.out ⟨K4, .inr ⟨F4, rfl⟩⟩)))⟩
  have F4 := Lib.hid F4
  go_wp2_with fail
  go_end0
  exact HT.out ▸ WPost.boxed (WPost.step K1 F1.out (WPost.step K2 F2.out (WPost.step K3 F3.out ⟨K4, .inl ⟨F4.out, rfl, W4⟩⟩)))

set_option maxRecDepth 100000 in
set_option maxHeartbeats 2000000 in
theorem w_record (p : Nat) (S : Nat → Prop) (xs : List UInt8) (cs : List Value) (ts : List Tok) (w : World) (hW : Wr w S p xs) (hI : Is w S shRecord cs ts) (hroom : Room xs ts) :
    Calls Tryz.prog 60 #[.pointer (some ⟨p, 0, none⟩), .agg cs.toArray] w (WPost w S p xs ts) := by
  obtain ⟨n0, n1, n2, n3_0, n3_1, n3_2, a3_3_0, l3_3_0, c3_3_0, a3_3_1, l3_3_1, c3_3_1, s3_4, n4, n5_0, n5_1, a5_2_0, l5_2_0, c5_2_0, a5_2_1, l5_2_1, c5_2_1, s5_3, t3, t5, rfl, hts, lo0, hi0, lo1, hi1, lo2, hi2, I3, lo4, hi4, I5⟩ := open_Record hI
  have R0 : Room xs ([Tok.num n0] ++ ([Tok.num n1] ++ ([Tok.num n2] ++ (t3 ++ ([Tok.num n4] ++ t5))))) := hts ▸ hroom
  have HT := Lib.hid hts; clear hts
  have W0 := hW.boxed (.cells #[.int .i64 n0, .int .i64 n1, .int .i64 n2, .int .i64 n3_0, .int .i64 n3_1, .int .i64 n3_2, .slice a3_3_0 l3_3_0 c3_3_0, .slice a3_3_1 l3_3_1 c3_3_1, .string s3_4, .int .i64 n4, .int .i64 n5_0, .int .i64 n5_1, .slice a5_2_0 l5_2_0 c5_2_0, .slice a5_2_1 l5_2_1 c5_2_1, .string s5_3] 87)
  have G0 : Keeps S w (w.alloc (.cells #[.int .i64 n0, .int .i64 n1, .int .i64 n2, .int .i64 n3_0, .int .i64 n3_1, .int .i64 n3_2, .slice a3_3_0 l3_3_0 c3_3_0, .slice a3_3_1 l3_3_1 c3_3_1, .string s3_4, .int .i64 n4, .int .i64 n5_0, .int .i64 n5_1, .slice a5_2_0 l5_2_0 c5_2_0, .slice a5_2_1 l5_2_1 c5_2_1, .string s5_3] 87)) := Keeps.refl.alloc _
  have H0 := Lib.hid (heap_alloc_new w (.cells #[.int .i64 n0, .int .i64 n1, .int .i64 n2, .int .i64 n3_0, .int .i64 n3_1, .int .i64 n3_2, .slice a3_3_0 l3_3_0 c3_3_0, .slice a3_3_1 l3_3_1 c3_3_1, .string s3_4, .int .i64 n4, .int .i64 n5_0, .int .i64 n5_1, .slice a5_2_0 l5_2_0 c5_2_0, .slice a5_2_1 l5_2_1 c5_2_1, .string s5_3] 87))
  go_enter Tryz.func60, Tryz.ntmps60
  go_wp2_with fail
  refine (w_number p (Also S w.heap.size) _ n0 _ W0 R0.left).mono ?_
  rintro e w1 ⟨K1, ⟨F1, rfl, W1⟩ | ⟨F1, rfl⟩⟩
  case inr => exact ⟨rfl, HT.out ▸ WPost.boxed (WPost.stop K1 F1 rfl)⟩
  have R1 := R0.right F1
  have G1 := G0.trans K1.out
  have H1 := Lib.hid (K1.row H0.out Also.new)
  have c1_0 := box_cell H1.out 1 rfl
  have F1 := Lib.hid F1
  go_wp2_with fail
  clear c1_0
  refine (w_number p (Also S w.heap.size) _ n1 _ W1 R1.left).mono ?_
  rintro e w2 ⟨K2, ⟨F2, rfl, W2⟩ | ⟨F2, rfl⟩⟩
  case inr => exact ⟨rfl, HT.out ▸ WPost.boxed (WPost.step K1 F1.out (WPost.stop K2 F2 rfl))⟩
  have R2 := R1.right F2
  have G2 := G1.trans K2.out
  have H2 := Lib.hid (K2.row H1.out Also.new)
  have c2_0 := box_cell H2.out 2 rfl
  have F2 := Lib.hid F2
  go_wp2_with fail
  clear c2_0
  refine (w_number p (Also S w.heap.size) _ n2 _ W2 R2.left).mono ?_
  rintro e w3 ⟨K3, ⟨F3, rfl, W3⟩ | ⟨F3, rfl⟩⟩
  case inr => exact ⟨rfl, HT.out ▸ WPost.boxed (WPost.step K1 F1.out (WPost.step K2 F2.out (WPost.stop K3 F3 rfl)))⟩
  have R3 := R2.right F3
  have G3 := G2.trans K3.out
  have H3 := Lib.hid (K3.row H2.out Also.new)
  have c3_0 := box_cell H3.out 3 rfl
  have c3_1 := box_cell H3.out 4 rfl
  have c3_2 := box_cell H3.out 5 rfl
  have c3_3 := box_cell H3.out 6 rfl
  have c3_4 := box_cell H3.out 7 rfl
  have c3_5 := box_cell H3.out 8 rfl
  have F3 := Lib.hid F3
  go_wp2_with fail
  clear c3_0 c3_1 c3_2 c3_3 c3_4 c3_5
  refine (w_entry p (Also S w.heap.size) _ _ _ _ W3 (I3.keep (fun _ => .inl) G3) R3.left).mono ?_
  rintro e w4 ⟨K4, ⟨F4, rfl, W4⟩ | ⟨F4, rfl⟩⟩
  case inr => exact ⟨rfl, HT.out ▸ WPost.boxed (WPost.step K1 F1.out (WPost.step K2 F2.out (WPost.step K3 F3.out (WPost.stop K4 F4 rfl))))⟩
  have R4 := R3.right F4
  have G4 := G3.trans K4.out
  have H4 := Lib.hid (K4.row H3.out Also.new)
  have c4_0 := box_cell H4.out 9 rfl
  have F4 := Lib.hid F4
  go_wp2_with fail
  clear c4_0
  refine (w_number p (Also S w.heap.size) _ n4 _ W4 R4.left).mono ?_
  rintro e w5 ⟨K5, ⟨F5, rfl, W5⟩ | ⟨F5, rfl⟩⟩
  case inr => exact ⟨rfl, HT.out ▸ WPost.boxed (WPost.step K1 F1.out (WPost.step K2 F2.out (WPost.step K3 F3.out (WPost.step K4 F4.out (WPost.stop K5 F5 rfl)))))⟩
  have R5 := R4.right F5
  have G5 := G4.trans K5.out
  have H5 := Lib.hid (K5.row H4.out Also.new)
  have c5_0 := box_cell H5.out 10 rfl
  have c5_1 := box_cell H5.out 11 rfl
  have c5_2 := box_cell H5.out 12 rfl
  have c5_3 := box_cell H5.out 13 rfl
  have c5_4 := box_cell H5.out 14 rfl
  have F5 := Lib.hid F5
  go_wp2_with fail
  clear c5_0 c5_1 c5_2 c5_3 c5_4
  refine (w_snapshot p (Also S w.heap.size) _ _ _ _ W5 (I5.keep (fun _ => .inl) G5) R5).mono ?_
  rintro e w6 ⟨K6, ⟨F6, rfl, W6⟩ | ⟨F6, rfl⟩⟩
  case inr => exact ⟨rfl, HT.out ▸ WPost.boxed (WPost.step K1 F1.out (WPost.step K2 F2.out (WPost.step K3 F3.out (WPost.step K4 F4.out (WPost.step K5 F5.out ⟨K6, .inr ⟨F6, rfl⟩⟩)))))⟩
  have F6 := Lib.hid F6
  go_wp2_with fail
  go_end0
  exact HT.out ▸ WPost.boxed (WPost.step K1 F1.out (WPost.step K2 F2.out (WPost.step K3 F3.out (WPost.step K4 F4.out (WPost.step K5 F5.out ⟨K6, .inl ⟨F6.out, rfl, W6⟩⟩)))))

end Go.Proofs.YtbhpbiimfcdgaaaGreat
