/-
  The document's writer, by contract: lists, rules, commands, operations, records (made by wip/gen_wire.py)
-/
import Derived.Test.YtbhpbiimfcdgaaaGreatWireLa
import Derived.Test.YtbhpbiimfcdgaaaGreatWireB1
import Derived.Deep.LoopGhost
namespace Go.Proofs.YtbhpbiimfcdgaaaGreat
open Go.RowKit
set_option linter.unusedVariables false

theorem many_step {xs : List UInt8} {l : Nat} (h : l ≤ 4096) : LStep xs 0 [.many l] (xs ++ bytesL [.many l]) 0 :=
  ⟨by rw [if_pos rfl, firstF_cons (fault_many h)]; rfl, fun _ => rfl, by (have := length_bytesL (ts := [.many l]) (by rw [firstF_cons (fault_many h)]; rfl); rw [List.length_append]; omega)⟩
theorem list_stop {w : World} {S : Nat → Prop} {e : Sh} {xss : List (List Value)} {xs : List UInt8} {E : Int} {l : Nat} {ts : List Tok}
    (h : (4096 < l ∧ ts = [.many l]) ∨ ∃ tss : List (List Tok), l ≤ 4096 ∧ tss.length = l ∧ ts = .many l :: tss.flatten ∧ ∀ (i : Nat) (x : List Value) (t : List Tok), xss[i]? = some x → tss[i]? = some t → Is w S e x t)
    (hno : ¬ (E = 0 ∧ l ≤ 4096)) : LStep xs E ts xs (if E = 0 then 2 else E) := by
  refine ⟨?_, ?_, by omega⟩
  · by_cases hE : E = 0
    · rw [if_pos hE, if_pos hE]
      rcases h with ⟨h4, rfl⟩ | ⟨_, h4, _⟩
      · exact (firstF_long h4).symm
      · exact absurd ⟨hE, h4⟩ hno
    · rw [if_neg hE, if_neg hE]
  · intro h0
    by_cases hE : E = 0
    · rw [if_pos hE] at h0; cases h0
    · rw [if_neg hE] at h0; exact absurd h0 hE

set_option maxRecDepth 100000 in
set_option maxHeartbeats 2000000 in
theorem l_listText (p : Nat) (S : Nat → Prop) (xs : List UInt8) (E : Int) (a : Option Addr) (l c : Nat) (ts : List Tok) (w : World) (hL : La w S p xs E) (hI : Is w S (.list .text) [.slice a l c] ts) (hroom : Room xs ts) :
    Calls Tryz.prog 51 #[.pointer (some ⟨p, 0, none⟩), .slice a l c] w (LPost w S p xs E ts) := by
  obtain ⟨a', l', c', xss, he, hlc, hcm, hxl, hrd, hcase⟩ := hI
  simp only [List.cons.injEq, Value.slice.injEq, and_true] at he
  obtain ⟨rfl, rfl, rfl⟩ := he
  have hlm : l ≤ maxLen := by omega
  have hl63 : l ≤ 9223372036854775807 := by unfold maxLen at hcm; omega
  have HXL := Lib.hid hxl; clear hxl
  have HRM := Lib.hid hroom
  have hrm : Room xs [.many l] := by
    rcases hcase with ⟨_, rfl⟩ | ⟨tss, _, _, rfl, _⟩
    · exact hroom
    · exact Room.left (b := tss.flatten) hroom
  have HC := Lib.hid hcase; clear hcase hroom
  go_enter Tryz.func51, Tryz.ntmps51
  go_wp2_with fail
  refine (l_many p S xs E l w hlm hL hrm).mono ?_
  rintro e w1 ⟨K1, ⟨rfl, hle, rfl, L1⟩ | ⟨hno, rfl, L1⟩⟩
  case inr =>
    have L1 := Lib.hid L1
    go_wp2_with fail
    first | go_end0 | refine bodyPost_ret (results_none rfl _ _ _) rfl ?_
    exact ⟨rfl, K1, _, _, L1.out, list_stop HC.out hno⟩
  rcases HC.out with ⟨h4, _⟩ | ⟨tss, _, htl, hts, hel⟩
  · omega
  have HT : Hid (ts = [.many l] ++ tss.flatten) := Lib.hid hts
  clear hts
  have HTL := Lib.hid htl; clear htl
  have T1 : LStep xs 0 [.many l] (xs ++ bytesL [.many l]) 0 := many_step hle
  have R0 : Room (xs ++ bytesL [.many l]) tss.flatten := by
    have h := HRM.out; rw [HT.out] at h; exact h.on T1
  go_wp2_with fail
  go_loopw [4] (fun i wr => ∃ (k : Nat) (xs' : List UInt8) (E' : Int), k ≤ l ∧ i = .int .i64 k ∧ Keeps S w wr ∧ La wr S p xs' E' ∧ LStep (xs ++ bytesL [.many l]) 0 (tss.take k).flatten xs' E') (fun i _ => l - (intOf i).toNat)
  case atStart => exact ⟨0, _, _, Nat.zero_le _, rfl, K1, L1, LStep.done⟩
  case round =>
    obtain ⟨k, xk, Ek, hk, rfl, K2, L2, T2⟩ := hrel
    by_cases hlt : k < l
    · obtain ⟨x, hx⟩ : ∃ x, xss[k]? = some x := ⟨_, List.getElem?_eq_getElem (by rw [HXL.out]; exact hlt)⟩
      obtain ⟨t, ht⟩ : ∃ t, tss[k]? = some t := ⟨_, List.getElem?_eq_getElem (by rw [HTL.out]; exact hlt)⟩
      have hI := (hel k x t hx ht).keep (S' := S) (fun _ h => h) K2
      have hrdk := hrd.keep (S' := S) (fun _ h => h) K2
      have R2 : Room xk t := by
        have h := R0; rw [flatten_split ht] at h; exact (h.on T2).left
      have FS := Lib.hid (flatten_succ ht)
      rcases hrdk with h0 | ⟨b, o, rfl, hSb, hcell⟩
      · have := HXL.out; rw [h0] at this; simp at this; omega
      have hc := hcell k x hx
      obtain ⟨s, hs, rfl, rfl⟩ := hI
      have hc0 : wr.cell? ⟨b, o + k, none⟩ = some (.string s) := by simpa [Sh.size] using hc 0 _ rfl
      have Hx := Lib.hid hx; clear hx
      have Ht := Lib.hid ht; clear ht
      clear hc hcell hrd hel
      have T2 := Lib.hid T2
      go_wp2_with fail
      refine (l_text p S _ _ s _ hs L2 R2).mono ?_
      rintro e w3 ⟨rfl, K3, x3, E3, L3, T3⟩
      have T3 := Lib.hid T3
      have L3 := Lib.hid L3
      go_wp2_with fail
      go_roundw
      case rel => exact ⟨k + 1, _, _, by omega, by go_num, K2.trans K3, L3.out, by rw [FS.out]; exact T2.out.trans T3.out⟩
      case measure => simp [intOf]; omega
    · have hkl : k = l := by omega
      have FE := Lib.hid (show (tss.take k).flatten = tss.flatten by rw [List.take_of_length_le (by rw [HTL.out]; omega)])
      have T2 := Lib.hid T2
      clear hkl
      go_wp2_with fail
      go_end0
      have hT := T2.out
      rw [FE.out] at hT
      exact ⟨rfl, K2, _, _, L2, by rw [HT.out]; exact T1.trans hT⟩

set_option maxRecDepth 100000 in
set_option maxHeartbeats 2000000 in
theorem l_listColumn (p : Nat) (S : Nat → Prop) (xs : List UInt8) (E : Int) (a : Option Addr) (l c : Nat) (ts : List Tok) (w : World) (hL : La w S p xs E) (hI : Is w S (.list shColumn) [.slice a l c] ts) (hroom : Room xs ts) :
    Calls Tryz.prog 98 #[.pointer (some ⟨p, 0, none⟩), .slice a l c] w (LPost w S p xs E ts) := by
  obtain ⟨a', l', c', xss, he, hlc, hcm, hxl, hrd, hcase⟩ := hI
  simp only [List.cons.injEq, Value.slice.injEq, and_true] at he
  obtain ⟨rfl, rfl, rfl⟩ := he
  have hlm : l ≤ maxLen := by omega
  have hl63 : l ≤ 9223372036854775807 := by unfold maxLen at hcm; omega
  have HXL := Lib.hid hxl; clear hxl
  have HRM := Lib.hid hroom
  have hrm : Room xs [.many l] := by
    rcases hcase with ⟨_, rfl⟩ | ⟨tss, _, _, rfl, _⟩
    · exact hroom
    · exact Room.left (b := tss.flatten) hroom
  have HC := Lib.hid hcase; clear hcase hroom
  go_enter Tryz.func98, Tryz.ntmps98
  go_wp2_with fail
  refine (l_many p S xs E l w hlm hL hrm).mono ?_
  rintro e w1 ⟨K1, ⟨rfl, hle, rfl, L1⟩ | ⟨hno, rfl, L1⟩⟩
  case inr =>
    have L1 := Lib.hid L1
    go_wp2_with fail
    first | go_end0 | refine bodyPost_ret (results_none rfl _ _ _) rfl ?_
    exact ⟨rfl, K1, _, _, L1.out, list_stop HC.out hno⟩
  rcases HC.out with ⟨h4, _⟩ | ⟨tss, _, htl, hts, hel⟩
  · omega
  have HT : Hid (ts = [.many l] ++ tss.flatten) := Lib.hid hts
  clear hts
  have HTL := Lib.hid htl; clear htl
  have T1 : LStep xs 0 [.many l] (xs ++ bytesL [.many l]) 0 := many_step hle
  have R0 : Room (xs ++ bytesL [.many l]) tss.flatten := by
    have h := HRM.out; rw [HT.out] at h; exact h.on T1
  go_wp2_with fail
  go_loopw [4] (fun i wr => ∃ (k : Nat) (xs' : List UInt8) (E' : Int), k ≤ l ∧ i = .int .i64 k ∧ Keeps S w wr ∧ La wr S p xs' E' ∧ LStep (xs ++ bytesL [.many l]) 0 (tss.take k).flatten xs' E') (fun i _ => l - (intOf i).toNat)
  case atStart => exact ⟨0, _, _, Nat.zero_le _, rfl, K1, L1, LStep.done⟩
  case round =>
    obtain ⟨k, xk, Ek, hk, rfl, K2, L2, T2⟩ := hrel
    by_cases hlt : k < l
    · obtain ⟨x, hx⟩ : ∃ x, xss[k]? = some x := ⟨_, List.getElem?_eq_getElem (by rw [HXL.out]; exact hlt)⟩
      obtain ⟨t, ht⟩ : ∃ t, tss[k]? = some t := ⟨_, List.getElem?_eq_getElem (by rw [HTL.out]; exact hlt)⟩
      have hI := (hel k x t hx ht).keep (S' := S) (fun _ h => h) K2
      have hrdk := hrd.keep (S' := S) (fun _ h => h) K2
      have R2 : Room xk t := by
        have h := R0; rw [flatten_split ht] at h; exact (h.on T2).left
      have FS := Lib.hid (flatten_succ ht)
      rcases hrdk with h0 | ⟨b, o, rfl, hSb, hcell⟩
      · have := HXL.out; rw [h0] at this; simp at this; omega
      have hc := hcell k x hx
      obtain ⟨s0, n1, b2, rfl, htt, hs0, lo1, hi1⟩ := open_Column hI
      have hc0 : wr.cell? ⟨b, o + k * 3, none⟩ = some (.string s0) := hc 0 _ rfl
      have hc1 : wr.cell? ⟨b, o + k * 3 + 1, none⟩ = some (.int .i64 n1) := hc 1 _ rfl
      have hc2 : wr.cell? ⟨b, o + k * 3 + 2, none⟩ = some (.bool b2) := hc 2 _ rfl
      have hc1 := Lib.hid hc1
      have hc2 := Lib.hid hc2
      have U0 : Room xk ([Tok.text s0.data.toList] ++ ([Tok.num n1] ++ [Tok.flag b2])) := htt ▸ R2
      have HTT := Lib.hid htt; clear htt
      have Hx := Lib.hid hx; clear hx
      have Ht := Lib.hid ht; clear ht
      clear hc hcell hrd hel
      have T2 := Lib.hid T2
      go_wp2_with fail
      refine (l_text p S _ _ s0 _ hs0 L2 U0.left).mono ?_
      rintro e v0 ⟨rfl, KK0, y0, F0, LL0, TT0⟩
      have U1 := U0.on TT0
      clear hc0
      have hc1 := KK0.cell hc1.out hSb
      have hc2 := Lib.hid (KK0.cell hc2.out hSb)
      have TT0 := Lib.hid TT0
      go_wp2_with fail
      refine (l_number p S _ _ n1 _ LL0 U1.left).mono ?_
      rintro e v1 ⟨rfl, KK1, y1, F1, LL1, TT1⟩
      have U2 := U1.on TT1
      clear hc1
      have hc2 := KK1.cell hc2.out hSb
      have TT1 := Lib.hid TT1
      go_wp2_with fail
      refine (l_flag p S _ _ b2 _ LL1 U2).mono ?_
      rintro e v2 ⟨rfl, KK2, y2, F2, LL2, TT2⟩
      have TT2 := Lib.hid TT2
      have LL2 := Lib.hid LL2
      go_wp2_with fail
      go_roundw
      case rel => exact ⟨k + 1, _, _, by omega, by go_num, (((K2.trans KK0).trans KK1).trans KK2), LL2.out, by rw [FS.out]; exact T2.out.trans (HTT.out ▸ (TT0.out.trans (TT1.out.trans TT2.out)))⟩
      case measure => simp [intOf]; omega
    · have hkl : k = l := by omega
      have FE := Lib.hid (show (tss.take k).flatten = tss.flatten by rw [List.take_of_length_le (by rw [HTL.out]; omega)])
      have T2 := Lib.hid T2
      clear hkl
      go_wp2_with fail
      go_end0
      have hT := T2.out
      rw [FE.out] at hT
      exact ⟨rfl, K2, _, _, L2, by rw [HT.out]; exact T1.trans hT⟩

set_option maxRecDepth 100000 in
set_option maxHeartbeats 2000000 in
theorem l_rule (p : Nat) (S : Nat → Prop) (xs : List UInt8) (E : Int) (cs : List Value) (ts : List Tok) (w : World) (hL : La w S p xs E) (hI : Is w S shRule cs ts) (hroom : Room xs ts) :
    Calls Tryz.prog 99 #[.pointer (some ⟨p, 0, none⟩), .agg cs.toArray] w (LPost w S p xs E ts) := by
  obtain ⟨s0, n1, a2, l2, c2, n3, n4, s5, s6, s7, t2, rfl, hts, hs0, lo1, hi1, I2, lo3, hi3, lo4, hi4, hs5, hs6, hs7⟩ := open_Rule hI
  have R0 : Room xs ([Tok.text s0.data.toList] ++ ([Tok.num n1] ++ (t2 ++ ([Tok.whole n3] ++ ([Tok.whole n4] ++ ([Tok.text s5.data.toList] ++ ([Tok.text s6.data.toList] ++ [Tok.text s7.data.toList]))))))) := hts ▸ hroom
  have HT := Lib.hid hts; clear hts
  have L0 := hL.boxed (.cells #[.string s0, .int .i64 n1, .slice a2 l2 c2, .int .i64 n3, .int .i64 n4, .string s5, .string s6, .string s7] 67)
  have G0 : Keeps S w (w.alloc (.cells #[.string s0, .int .i64 n1, .slice a2 l2 c2, .int .i64 n3, .int .i64 n4, .string s5, .string s6, .string s7] 67)) := Keeps.refl.alloc _
  have H0 := Lib.hid (heap_alloc_new w (.cells #[.string s0, .int .i64 n1, .slice a2 l2 c2, .int .i64 n3, .int .i64 n4, .string s5, .string s6, .string s7] 67))
  go_enter Tryz.func99, Tryz.ntmps99
  go_wp2_with fail
  refine (l_text p (Also S w.heap.size) _ _ s0 _ hs0 L0 R0.left).mono ?_
  rintro e w1 ⟨rfl, K1, x1, E1, L1, T1⟩
  have R1 := R0.on T1
  have G1 := G0.trans K1.out
  have H1 := Lib.hid (K1.row H0.out Also.new)
  have c1_0 := box_cell H1.out 1 rfl
  have T1 := Lib.hid T1
  go_wp2_with fail
  clear c1_0
  refine (l_number p (Also S w.heap.size) _ _ n1 _ L1 R1.left).mono ?_
  rintro e w2 ⟨rfl, K2, x2, E2, L2, T2⟩
  have R2 := R1.on T2
  have G2 := G1.trans K2.out
  have H2 := Lib.hid (K2.row H1.out Also.new)
  have c2_0 := box_cell H2.out 2 rfl
  have T2 := Lib.hid T2
  go_wp2_with fail
  clear c2_0
  refine (l_listText p (Also S w.heap.size) _ _ a2 l2 c2 _ _ L2 (I2.keep (fun _ => .inl) G2) R2.left).mono ?_
  rintro e w3 ⟨rfl, K3, x3, E3, L3, T3⟩
  have R3 := R2.on T3
  have G3 := G2.trans K3.out
  have H3 := Lib.hid (K3.row H2.out Also.new)
  have c3_0 := box_cell H3.out 3 rfl
  have T3 := Lib.hid T3
  go_wp2_with fail
  clear c3_0
  refine (l_whole p (Also S w.heap.size) _ _ n3 _ L3 R3.left).mono ?_
  rintro e w4 ⟨rfl, K4, x4, E4, L4, T4⟩
  have R4 := R3.on T4
  have G4 := G3.trans K4.out
  have H4 := Lib.hid (K4.row H3.out Also.new)
  have c4_0 := box_cell H4.out 4 rfl
  have T4 := Lib.hid T4
  go_wp2_with fail
  clear c4_0
  refine (l_whole p (Also S w.heap.size) _ _ n4 _ L4 R4.left).mono ?_
  rintro e w5 ⟨rfl, K5, x5, E5, L5, T5⟩
  have R5 := R4.on T5
  have G5 := G4.trans K5.out
  have H5 := Lib.hid (K5.row H4.out Also.new)
  have c5_0 := box_cell H5.out 5 rfl
  have T5 := Lib.hid T5
  go_wp2_with fail
  clear c5_0
  refine (l_text p (Also S w.heap.size) _ _ s5 _ hs5 L5 R5.left).mono ?_
  rintro e w6 ⟨rfl, K6, x6, E6, L6, T6⟩
  have R6 := R5.on T6
  have G6 := G5.trans K6.out
  have H6 := Lib.hid (K6.row H5.out Also.new)
  have c6_0 := box_cell H6.out 6 rfl
  have T6 := Lib.hid T6
  go_wp2_with fail
  clear c6_0
  refine (l_text p (Also S w.heap.size) _ _ s6 _ hs6 L6 R6.left).mono ?_
  rintro e w7 ⟨rfl, K7, x7, E7, L7, T7⟩
  have R7 := R6.on T7
  have G7 := G6.trans K7.out
  have H7 := Lib.hid (K7.row H6.out Also.new)
  have c7_0 := box_cell H7.out 7 rfl
  have T7 := Lib.hid T7
  go_wp2_with fail
  clear c7_0
  refine (l_text p (Also S w.heap.size) _ _ s7 _ hs7 L7 R7).mono ?_
  rintro e w8 ⟨rfl, K8, x8, E8, L8, T8⟩
  have T8 := Lib.hid T8
  go_wp2_with fail
  go_end0
  exact ⟨rfl, G7.trans K8.out, _, _, L8.out, HT.out ▸ (T1.out.trans (T2.out.trans (T3.out.trans (T4.out.trans (T5.out.trans (T6.out.trans (T7.out.trans T8.out)))))))⟩

end Go.Proofs.YtbhpbiimfcdgaaaGreat
