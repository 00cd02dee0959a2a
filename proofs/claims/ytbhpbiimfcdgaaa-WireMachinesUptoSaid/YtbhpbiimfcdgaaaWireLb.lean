/-
  The document's writer, by contract: lists, rules, commands, operations, records (made by wip/gen_wire.py)
-/
import Derived.Test.YtbhpbiimfcdgaaaWireLa
import Derived.Test.YtbhpbiimfcdgaaaWireB1
import Derived.Deep.LoopGhost
namespace Go.Proofs.Ytbhpbiimfcdgaaa
open Go.RowKit
set_option linter.unusedVariables false

theorem many_step {xs : List UInt8} {l : Nat} (h : l ≤ 4096) : LStep xs 0 [.many l] (xs ++ bytesL [.many l]) 0 :=
  ⟨by rw [if_pos rfl, firstF_cons (fault_many h)]; rfl, fun _ => rfl, by (have := length_bytesL (ts := [.many l]) (by rw [firstF_cons (fault_many h)]; rfl); rw [List.length_append]; omega)⟩
theorem list_stop {w : World} {S : Nat → Prop} {e : Sh} {xss : List (List Value)} {xs : List UInt8} {E : Int} {l : Nat} {ts : List Tok}
    (h : (4096 < l ∧ ts = [.many l]) ∨ ∃ tss : List (List Tok), l ≤ 4096 ∧ tss.length = l ∧ ts = .many l :: tss.flatten ∧ ∀ (i : Nat) (x : List Value) (t : List Tok), xss[i]? = some x → tss[i]? = some t → Is w S e x t)
    (hno : ¬ (E = 0 ∧ l ≤ 4096)) : LStep xs E ts xs (if E = 0 then 2 else E) := by
  refine ⟨?_, ?_, by omega⟩
  · by_cases hE : E = 0
    · rw [if_pos hE, if_pos hE]
      rcases h with ⟨h4, rfl⟩ | ⟨_, h4, _⟩
      · exact (firstF_long h4).symm
      · exact absurd ⟨hE, h4⟩ hno
    · rw [if_neg hE, if_neg hE]
  · intro h0
    by_cases hE : E = 0
    · rw [if_pos hE] at h0; cases h0
    · rw [if_neg hE] at h0; exact absurd h0 hE

set_option maxRecDepth 100000 in
set_option maxHeartbeats 2000000 in
theorem l_listText (p : Nat) (S : Nat → Prop) (xs : List UInt8) (E : Int) (a : Option Addr) (l c : Nat) (ts : List Tok) (w : World) (hL : La w S p xs E) (hI : Is w S (.list .text) [.slice a l c] ts) (hroom : Room xs ts) :
    Calls Try.prog 93 #[.pointer (some ⟨p, 0, none⟩), .slice a l c] w (LPost w S p xs E ts) := by
  obtain ⟨a', l', c', xss, he, hlc, hcm, hxl, hrd, hcase⟩ := hI
  simp only [List.cons.injEq, Value.slice.injEq, and_true] at he
  obtain ⟨rfl, rfl, rfl⟩ := he
  have hlm : l ≤ maxLen := by omega
  have hl63 : l ≤ 9223372036854775807 := by unfold maxLen at hcm; omega
  have HXL := Lib.hid hxl; clear hxl
  have HRM := Lib.hid hroom
  have hrm : Room xs [.many l] := by
    rcases hcase with ⟨_, rfl⟩ | ⟨tss, _, _, rfl, _⟩
    · exact hroom
    · exact Room.left (b := tss.flatten) hroom
  have HC := Lib.hid hcase; clear hcase hroom
  go_enter Try.func93, Try.ntmps93
  go_wp2_with fail
  refine (l_many p S xs E l w hlm hL hrm).mono ?_
  rintro e w1 ⟨K1, ⟨rfl, hle, rfl, L1⟩ | ⟨hno, rfl, L1⟩⟩
  case inr =>
    have L1 := Lib.hid L1
    go_wp2_with fail
    first | go_end0 | refine bodyPost_ret (results_none rfl _ _ _) rfl ?_
    exact ⟨rfl, K1, _, _, L1.out, list_stop HC.out hno⟩
  rcases HC.out with ⟨h4, _⟩ | ⟨tss, _, htl, hts, hel⟩
  · omega
  have HT : Hid (ts = [.many l] ++ tss.flatten) := Lib.hid hts
  clear hts
  have HTL := Lib.hid htl; clear htl
  have T1 : LStep xs 0 [.many l] (xs ++ bytesL [.many l]) 0 := many_step hle
  have R0 : Room (xs ++ bytesL [.many l]) tss.flatten := by
    have h := HRM.out; rw [HT.out] at h; exact h.on T1
  go_wp2_with fail
  go_loopw [4] (fun i wr => ∃ (k : Nat) (xs' : List UInt8) (E' : Int), k ≤ l ∧ i = .int .i64 k ∧ Keeps S w wr ∧ La wr S p xs' E' ∧ LStep (xs ++ bytesL [.many l]) 0 (tss.take k).flatten xs' E') (fun i _ => l - (intOf i).toNat)
  case atStart => exact ⟨0, _, _, Nat.zero_le _, rfl, K1, L1, LStep.done⟩
  case round =>
    obtain ⟨k, xk, Ek, hk, rfl, K2, L2, T2⟩ := hrel
    by_cases hlt : k < l
    · obtain ⟨x, hx⟩ : ∃ x, xss[k]? = some x := ⟨_, List.getElem?_eq_getElem (by rw [HXL.out]; exact hlt)⟩
      obtain ⟨t, ht⟩ : ∃ t, tss[k]? = some t := ⟨_, List.getElem?_eq_getElem (by rw [HTL.out]; exact hlt)⟩
      have hI := (hel k x t hx ht).keep (S' := S) (fun _ h => h) K2
      have hrdk := hrd.keep (S' := S) (fun _ h => h) K2
      have R2 : Room xk t := by
        have h := R0; rw [flatten_split ht] at h; exact (h.on T2).left
      have FS := Lib.hid (flatten_succ ht)
      rcases hrdk with h0 | ⟨b, o, rfl, hSb, hcell⟩
      · have := HXL.out; rw [h0] at this; simp at this; omega
      have hc := hcell k x hx
      obtain ⟨s, hs, rfl, rfl⟩ := hI
      have hc0 : wr.cell? ⟨b, o + k, none⟩ = some (.string s) := by simpa [Sh.size] using hc 0 _ rfl
      have Hx := Lib.hid hx; clear hx
      have Ht := Lib.hid ht; clear ht
      clear hc hcell hrd hel
      have T2 := Lib.hid T2
      go_wp2_with fail
      refine (l_text p S _ _ s _ hs L2 R2).mono ?_
      rintro e w3 ⟨rfl, K3, x3, E3, L3, T3⟩
      have T3 := Lib.hid T3
      have L3 := Lib.hid L3
      go_wp2_with fail
      go_roundw
      case rel => exact ⟨k + 1, _, _, by omega, by go_num, K2.trans K3, L3.out, by rw [FS.out]; exact T2.out.trans T3.out⟩
      case measure => simp [intOf]; omega
    · have hkl : k = l := by omega
      have FE := Lib.hid (show (tss.take k).flatten = tss.flatten by rw [List.take_of_length_le (by rw [HTL.out]; omega)])
      have T2 := Lib.hid T2
      clear hkl
      go_wp2_with fail
      go_end0
      have hT := T2.out
      rw [FE.out] at hT
      exact ⟨rfl, K2, _, _, L2, by rw [HT.out]; exact T1.trans hT⟩

set_option maxRecDepth 100000 in
set_option maxHeartbeats 2000000 in
theorem l_listNum (p : Nat) (S : Nat → Prop) (xs : List UInt8) (E : Int) (a : Option Addr) (l c : Nat) (ts : List Tok) (w : World) (hL : La w S p xs E) (hI : Is w S (.list .num) [.slice a l c] ts) (hroom : Room xs ts) :
    Calls Try.prog 156 #[.pointer (some ⟨p, 0, none⟩), .slice a l c] w (LPost w S p xs E ts) := by
  obtain ⟨a', l', c', xss, he, hlc, hcm, hxl, hrd, hcase⟩ := hI
  simp only [List.cons.injEq, Value.slice.injEq, and_true] at he
  obtain ⟨rfl, rfl, rfl⟩ := he
  have hlm : l ≤ maxLen := by omega
  have hl63 : l ≤ 9223372036854775807 := by unfold maxLen at hcm; omega
  have HXL := Lib.hid hxl; clear hxl
  have HRM := Lib.hid hroom
  have hrm : Room xs [.many l] := by
    rcases hcase with ⟨_, rfl⟩ | ⟨tss, _, _, rfl, _⟩
    · exact hroom
    · exact Room.left (b := tss.flatten) hroom
  have HC := Lib.hid hcase; clear hcase hroom
  go_enter Try.func156, Try.ntmps156
  go_wp2_with fail
  refine (l_many p S xs E l w hlm hL hrm).mono ?_
  rintro e w1 ⟨K1, ⟨rfl, hle, rfl, L1⟩ | ⟨hno, rfl, L1⟩⟩
  case inr =>
    have L1 := Lib.hid L1
    go_wp2_with fail
    first | go_end0 | refine bodyPost_ret (results_none rfl _ _ _) rfl ?_
    exact ⟨rfl, K1, _, _, L1.out, list_stop HC.out hno⟩
  rcases HC.out with ⟨h4, _⟩ | ⟨tss, _, htl, hts, hel⟩
  · omega
  have HT : Hid (ts = [.many l] ++ tss.flatten) := Lib.hid hts
  clear hts
  have HTL := Lib.hid htl; clear htl
  have T1 : LStep xs 0 [.many l] (xs ++ bytesL [.many l]) 0 := many_step hle
  have R0 : Room (xs ++ bytesL [.many l]) tss.flatten := by
    have h := HRM.out; rw [HT.out] at h; exact h.on T1
  go_wp2_with fail
  go_loopw [4] (fun i wr => ∃ (k : Nat) (xs' : List UInt8) (E' : Int), k ≤ l ∧ i = .int .i64 k ∧ Keeps S w wr ∧ La wr S p xs' E' ∧ LStep (xs ++ bytesL [.many l]) 0 (tss.take k).flatten xs' E') (fun i _ => l - (intOf i).toNat)
  case atStart => exact ⟨0, _, _, Nat.zero_le _, rfl, K1, L1, LStep.done⟩
  case round =>
    obtain ⟨k, xk, Ek, hk, rfl, K2, L2, T2⟩ := hrel
    by_cases hlt : k < l
    · obtain ⟨x, hx⟩ : ∃ x, xss[k]? = some x := ⟨_, List.getElem?_eq_getElem (by rw [HXL.out]; exact hlt)⟩
      obtain ⟨t, ht⟩ : ∃ t, tss[k]? = some t := ⟨_, List.getElem?_eq_getElem (by rw [HTL.out]; exact hlt)⟩
      have hI := (hel k x t hx ht).keep (S' := S) (fun _ h => h) K2
      have hrdk := hrd.keep (S' := S) (fun _ h => h) K2
      have R2 : Room xk t := by
        have h := R0; rw [flatten_split ht] at h; exact (h.on T2).left
      have FS := Lib.hid (flatten_succ ht)
      rcases hrdk with h0 | ⟨b, o, rfl, hSb, hcell⟩
      · have := HXL.out; rw [h0] at this; simp at this; omega
      have hc := hcell k x hx
      obtain ⟨n, lo, hi, rfl, rfl⟩ := hI
      have hc0 : wr.cell? ⟨b, o + k, none⟩ = some (.int .i64 n) := by simpa [Sh.size] using hc 0 _ rfl
      have Hx := Lib.hid hx; clear hx
      have Ht := Lib.hid ht; clear ht
      clear hc hcell hrd hel
      have T2 := Lib.hid T2
      go_wp2_with fail
      refine (l_number p S _ _ n _ L2 R2).mono ?_
      rintro e w3 ⟨rfl, K3, x3, E3, L3, T3⟩
      have T3 := Lib.hid T3
      have L3 := Lib.hid L3
      go_wp2_with fail
      go_roundw
      case rel => exact ⟨k + 1, _, _, by omega, by go_num, K2.trans K3, L3.out, by rw [FS.out]; exact T2.out.trans T3.out⟩
      case measure => simp [intOf]; omega
    · have hkl : k = l := by omega
      have FE := Lib.hid (show (tss.take k).flatten = tss.flatten by rw [List.take_of_length_le (by rw [HTL.out]; omega)])
      have T2 := Lib.hid T2
      clear hkl
      go_wp2_with fail
      go_end0
      have hT := T2.out
      rw [FE.out] at hT
      exact ⟨rfl, K2, _, _, L2, by rw [HT.out]; exact T1.trans hT⟩

set_option maxRecDepth 100000 in
set_option maxHeartbeats 2000000 in
theorem l_listColumn (p : Nat) (S : Nat → Prop) (xs : List UInt8) (E : Int) (a : Option Addr) (l c : Nat) (ts : List Tok) (w : World) (hL : La w S p xs E) (hI : Is w S (.list shColumn) [.slice a l c] ts) (hroom : Room xs ts) :
    Calls Try.prog 67 #[.pointer (some ⟨p, 0, none⟩), .slice a l c] w (LPost w S p xs E ts) := by
  obtain ⟨a', l', c', xss, he, hlc, hcm, hxl, hrd, hcase⟩ := hI
  simp only [List.cons.injEq, Value.slice.injEq, and_true] at he
  obtain ⟨rfl, rfl, rfl⟩ := he
  have hlm : l ≤ maxLen := by omega
  have hl63 : l ≤ 9223372036854775807 := by unfold maxLen at hcm; omega
  have HXL := Lib.hid hxl; clear hxl
  have HRM := Lib.hid hroom
  have hrm : Room xs [.many l] := by
    rcases hcase with ⟨_, rfl⟩ | ⟨tss, _, _, rfl, _⟩
    · exact hroom
    · exact Room.left (b := tss.flatten) hroom
  have HC := Lib.hid hcase; clear hcase hroom
  go_enter Try.func67, Try.ntmps67
  go_wp2_with fail
  refine (l_many p S xs E l w hlm hL hrm).mono ?_
  rintro e w1 ⟨K1, ⟨rfl, hle, rfl, L1⟩ | ⟨hno, rfl, L1⟩⟩
  case inr =>
    have L1 := Lib.hid L1
    go_wp2_with fail
    first | go_end0 | refine bodyPost_ret (results_none rfl _ _ _) rfl ?_
    exact ⟨rfl, K1, _, _, L1.out, list_stop HC.out hno⟩
  rcases HC.out with ⟨h4, _⟩ | ⟨tss, _, htl, hts, hel⟩
  · omega
  have HT : Hid (ts = [.many l] ++ tss.flatten) := Lib.hid hts
  clear hts
  have HTL := Lib.hid htl; clear htl
  have T1 : LStep xs 0 [.many l] (xs ++ bytesL [.many l]) 0 := many_step hle
  have R0 : Room (xs ++ bytesL [.many l]) tss.flatten := by
    have h := HRM.out; rw [HT.out] at h; exact h.on T1
  go_wp2_with fail
  go_loopw [4] (fun i wr => ∃ (k : Nat) (xs' : List UInt8) (E' : Int), k ≤ l ∧ i = .int .i64 k ∧ Keeps S w wr ∧ La wr S p xs' E' ∧ LStep (xs ++ bytesL [.many l]) 0 (tss.take k).flatten xs' E') (fun i _ => l - (intOf i).toNat)
  case atStart => exact ⟨0, _, _, Nat.zero_le _, rfl, K1, L1, LStep.done⟩
  case round =>
    obtain ⟨k, xk, Ek, hk, rfl, K2, L2, T2⟩ := hrel
    by_cases hlt : k < l
    · obtain ⟨x, hx⟩ : ∃ x, xss[k]? = some x := ⟨_, List.getElem?_eq_getElem (by rw [HXL.out]; exact hlt)⟩
      obtain ⟨t, ht⟩ : ∃ t, tss[k]? = some t := ⟨_, List.getElem?_eq_getElem (by rw [HTL.out]; exact hlt)⟩
      have hI := (hel k x t hx ht).keep (S' := S) (fun _ h => h) K2
      have hrdk := hrd.keep (S' := S) (fun _ h => h) K2
      have R2 : Room xk t := by
        have h := R0; rw [flatten_split ht] at h; exact (h.on T2).left
      have FS := Lib.hid (flatten_succ ht)
      rcases hrdk with h0 | ⟨b, o, rfl, hSb, hcell⟩
      · have := HXL.out; rw [h0] at this; simp at this; omega
      have hc := hcell k x hx
      obtain ⟨s0, n1, b2, rfl, htt, hs0, lo1, hi1⟩ := open_Column hI
      have hc0 : wr.cell? ⟨b, o + k * 3, none⟩ = some (.string s0) := hc 0 _ rfl
      have hc1 : wr.cell? ⟨b, o + k * 3 + 1, none⟩ = some (.int .i64 n1) := hc 1 _ rfl
      have hc2 : wr.cell? ⟨b, o + k * 3 + 2, none⟩ = some (.bool b2) := hc 2 _ rfl
      have hc1 := Lib.hid hc1
      have hc2 := Lib.hid hc2
      have U0 : Room xk ([Tok.text s0.data.toList] ++ ([Tok.num n1] ++ [Tok.flag b2])) := htt ▸ R2
      have HTT := Lib.hid htt; clear htt
      have Hx := Lib.hid hx; clear hx
      have Ht := Lib.hid ht; clear ht
      clear hc hcell hrd hel
      have T2 := Lib.hid T2
      go_wp2_with fail
      refine (l_text p S _ _ s0 _ hs0 L2 U0.left).mono ?_
      rintro e v0 ⟨rfl, KK0, y0, F0, LL0, TT0⟩
      have U1 := U0.on TT0
      clear hc0
      have hc1 := KK0.cell hc1.out hSb
      have hc2 := Lib.hid (KK0.cell hc2.out hSb)
      have TT0 := Lib.hid TT0
      go_wp2_with fail
      refine (l_number p S _ _ n1 _ LL0 U1.left).mono ?_
      rintro e v1 ⟨rfl, KK1, y1, F1, LL1, TT1⟩
      have U2 := U1.on TT1
      clear hc1
      have hc2 := KK1.cell hc2.out hSb
      have TT1 := Lib.hid TT1
      go_wp2_with fail
      refine (l_flag p S _ _ b2 _ LL1 U2).mono ?_
      rintro e v2 ⟨rfl, KK2, y2, F2, LL2, TT2⟩
      have TT2 := Lib.hid TT2
      have LL2 := Lib.hid LL2
      go_wp2_with fail
      go_roundw
      case rel => exact ⟨k + 1, _, _, by omega, by go_num, (((K2.trans KK0).trans KK1).trans KK2), LL2.out, by rw [FS.out]; exact T2.out.trans (HTT.out ▸ (TT0.out.trans (TT1.out.trans TT2.out)))⟩
      case measure => simp [intOf]; omega
    · have hkl : k = l := by omega
      have FE := Lib.hid (show (tss.take k).flatten = tss.flatten by rw [List.take_of_length_le (by rw [HTL.out]; omega)])
      have T2 := Lib.hid T2
      clear hkl
      go_wp2_with fail
      go_end0
      have hT := T2.out
      rw [FE.out] at hT
      exact ⟨rfl, K2, _, _, L2, by rw [HT.out]; exact T1.trans hT⟩

set_option maxRecDepth 100000 in
set_option maxHeartbeats 2000000 in
theorem l_rule (p : Nat) (S : Nat → Prop) (xs : List UInt8) (E : Int) (cs : List Value) (ts : List Tok) (w : World) (hL : La w S p xs E) (hI : Is w S shRule cs ts) (hroom : Room xs ts) :
    Calls Try.prog 68 #[.pointer (some ⟨p, 0, none⟩), .agg cs.toArray] w (LPost w S p xs E ts) := by
  obtain ⟨s0, n1, a2, l2, c2, n3, n4, s5, s6, s7, t2, rfl, hts, hs0, lo1, hi1, I2, lo3, hi3, lo4, hi4, hs5, hs6, hs7⟩ := open_Rule hI
  have R0 : Room xs ([Tok.text s0.data.toList] ++ ([Tok.num n1] ++ (t2 ++ ([Tok.whole n3] ++ ([Tok.whole n4] ++ ([Tok.text s5.data.toList] ++ ([Tok.text s6.data.toList] ++ [Tok.text s7.data.toList]))))))) := hts ▸ hroom
  have HT := Lib.hid hts; clear hts
  have L0 := hL.boxed (.cells #[.string s0, .int .i64 n1, .slice a2 l2 c2, .int .i64 n3, .int .i64 n4, .string s5, .string s6, .string s7] 27)
  have G0 : Keeps S w (w.alloc (.cells #[.string s0, .int .i64 n1, .slice a2 l2 c2, .int .i64 n3, .int .i64 n4, .string s5, .string s6, .string s7] 27)) := Keeps.refl.alloc _
  have H0 := Lib.hid (heap_alloc_new w (.cells #[.string s0, .int .i64 n1, .slice a2 l2 c2, .int .i64 n3, .int .i64 n4, .string s5, .string s6, .string s7] 27))
  go_enter Try.func68, Try.ntmps68
  go_wp2_with fail
  refine (l_text p (Also S w.heap.size) _ _ s0 _ hs0 L0 R0.left).mono ?_
  rintro e w1 ⟨rfl, K1, x1, E1, L1, T1⟩
  have R1 := R0.on T1
  have G1 := G0.trans K1.out
  have H1 := Lib.hid (K1.row H0.out Also.new)
  have c1_0 := box_cell H1.out 1 rfl
  have T1 := Lib.hid T1
  go_wp2_with fail
  clear c1_0
  refine (l_number p (Also S w.heap.size) _ _ n1 _ L1 R1.left).mono ?_
  rintro e w2 ⟨rfl, K2, x2, E2, L2, T2⟩
  have R2 := R1.on T2
  have G2 := G1.trans K2.out
  have H2 := Lib.hid (K2.row H1.out Also.new)
  have c2_0 := box_cell H2.out 2 rfl
  have T2 := Lib.hid T2
  go_wp2_with fail
  clear c2_0
  refine (l_listText p (Also S w.heap.size) _ _ a2 l2 c2 _ _ L2 (I2.keep (fun _ => .inl) G2) R2.left).mono ?_
  rintro e w3 ⟨rfl, K3, x3, E3, L3, T3⟩
  have R3 := R2.on T3
  have G3 := G2.trans K3.out
  have H3 := Lib.hid (K3.row H2.out Also.new)
  have c3_0 := box_cell H3.out 3 rfl
  have T3 := Lib.hid T3
  go_wp2_with fail
  clear c3_0
  refine (l_whole p (Also S w.heap.size) _ _ n3 _ L3 R3.left).mono ?_
  rintro e w4 ⟨rfl, K4, x4, E4, L4, T4⟩
  have R4 := R3.on T4
  have G4 := G3.trans K4.out
  have H4 := Lib.hid (K4.row H3.out Also.new)
  have c4_0 := box_cell H4.out 4 rfl
  have T4 := Lib.hid T4
  go_wp2_with fail
  clear c4_0
  refine (l_whole p (Also S w.heap.size) _ _ n4 _ L4 R4.left).mono ?_
  rintro e w5 ⟨rfl, K5, x5, E5, L5, T5⟩
  have R5 := R4.on T5
  have G5 := G4.trans K5.out
  have H5 := Lib.hid (K5.row H4.out Also.new)
  have c5_0 := box_cell H5.out 5 rfl
  have T5 := Lib.hid T5
  go_wp2_with fail
  clear c5_0
  refine (l_text p (Also S w.heap.size) _ _ s5 _ hs5 L5 R5.left).mono ?_
  rintro e w6 ⟨rfl, K6, x6, E6, L6, T6⟩
  have R6 := R5.on T6
  have G6 := G5.trans K6.out
  have H6 := Lib.hid (K6.row H5.out Also.new)
  have c6_0 := box_cell H6.out 6 rfl
  have T6 := Lib.hid T6
  go_wp2_with fail
  clear c6_0
  refine (l_text p (Also S w.heap.size) _ _ s6 _ hs6 L6 R6.left).mono ?_
  rintro e w7 ⟨rfl, K7, x7, E7, L7, T7⟩
  have R7 := R6.on T7
  have G7 := G6.trans K7.out
  have H7 := Lib.hid (K7.row H6.out Also.new)
  have c7_0 := box_cell H7.out 7 rfl
  have T7 := Lib.hid T7
  go_wp2_with fail
  clear c7_0
  refine (l_text p (Also S w.heap.size) _ _ s7 _ hs7 L7 R7).mono ?_
  rintro e w8 ⟨rfl, K8, x8, E8, L8, T8⟩
  have T8 := Lib.hid T8
  go_wp2_with fail
  go_end0
  exact ⟨rfl, G7.trans K8.out, _, _, L8.out, HT.out ▸ (T1.out.trans (T2.out.trans (T3.out.trans (T4.out.trans (T5.out.trans (T6.out.trans (T7.out.trans T8.out)))))))⟩

set_option maxRecDepth 100000 in
set_option maxHeartbeats 2000000 in
theorem l_command (p : Nat) (S : Nat → Prop) (xs : List UInt8) (E : Int) (cs : List Value) (ts : List Tok) (w : World) (hL : La w S p xs E) (hI : Is w S shCommand cs ts) (hroom : Room xs ts) :
    Calls Try.prog 34 #[.pointer (some ⟨p, 0, none⟩), .agg cs.toArray] w (LPost w S p xs E ts) := by
  obtain ⟨n0, s1, s2, s3, s4, s5, a6, l6, c6, s7_0, n7_1, a7_2, l7_2, c7_2, n7_3, n7_4, s7_5, s7_6, s7_7, n8, b9, t6, t7, rfl, hts, lo0, hi0, hs1, hs2, hs3, hs4, hs5, I6, I7, lo8, hi8⟩ := open_Command hI
  have R0 : Room xs ([Tok.num n0] ++ ([Tok.text s1.data.toList] ++ ([Tok.text s2.data.toList] ++ ([Tok.text s3.data.toList] ++ ([Tok.text s4.data.toList] ++ ([Tok.text s5.data.toList] ++ (t6 ++ (t7 ++ ([Tok.num n8] ++ [Tok.flag b9]))))))))) := hts ▸ hroom
  have HT := Lib.hid hts; clear hts
  have L0 := hL.boxed (.cells #[.int .i64 n0, .string s1, .string s2, .string s3, .string s4, .string s5, .slice a6 l6 c6, .string s7_0, .int .i64 n7_1, .slice a7_2 l7_2 c7_2, .int .i64 n7_3, .int .i64 n7_4, .string s7_5, .string s7_6, .string s7_7, .int .i64 n8, .bool b9] 30)
  have G0 : Keeps S w (w.alloc (.cells #[.int .i64 n0, .string s1, .string s2, .string s3, .string s4, .string s5, .slice a6 l6 c6, .string s7_0, .int .i64 n7_1, .slice a7_2 l7_2 c7_2, .int .i64 n7_3, .int .i64 n7_4, .string s7_5, .string s7_6, .string s7_7, .int .i64 n8, .bool b9] 30)) := Keeps.refl.alloc _
  have H0 := Lib.hid (heap_alloc_new w (.cells #[.int .i64 n0, .string s1, .string s2, .string s3, .string s4, .string s5, .slice a6 l6 c6, .string s7_0, .int .i64 n7_1, .slice a7_2 l7_2 c7_2, .int .i64 n7_3, .int .i64 n7_4, .string s7_5, .string s7_6, .string s7_7, .int .i64 n8, .bool b9] 30))
  go_enter Try.func34, Try.ntmps34
  go_wp2_with fail
  refine (l_number p (Also S w.heap.size) _ _ n0 _ L0 R0.left).mono ?_
  rintro e w1 ⟨rfl, K1, x1, E1, L1, T1⟩
  have R1 := R0.on T1
  have G1 := G0.trans K1.out
  have H1 := Lib.hid (K1.row H0.out Also.new)
  have c1_0 := box_cell H1.out 1 rfl
  have T1 := Lib.hid T1
  go_wp2_with fail
  clear c1_0
  refine (l_text p (Also S w.heap.size) _ _ s1 _ hs1 L1 R1.left).mono ?_
  rintro e w2 ⟨rfl, K2, x2, E2, L2, T2⟩
  have R2 := R1.on T2
  have G2 := G1.trans K2.out
  have H2 := Lib.hid (K2.row H1.out Also.new)
  have c2_0 := box_cell H2.out 2 rfl
  have T2 := Lib.hid T2
  go_wp2_with fail
  clear c2_0
  refine (l_text p (Also S w.heap.size) _ _ s2 _ hs2 L2 R2.left).mono ?_
  rintro e w3 ⟨rfl, K3, x3, E3, L3, T3⟩
  have R3 := R2.on T3
  have G3 := G2.trans K3.out
  have H3 := Lib.hid (K3.row H2.out Also.new)
  have c3_0 := box_cell H3.out 3 rfl
  have T3 := Lib.hid T3
  go_wp2_with fail
  clear c3_0
  refine (l_text p (Also S w.heap.size) _ _ s3 _ hs3 L3 R3.left).mono ?_
  rintro e w4 ⟨rfl, K4, x4, E4, L4, T4⟩
  have R4 := R3.on T4
  have G4 := G3.trans K4.out
  have H4 := Lib.hid (K4.row H3.out Also.new)
  have c4_0 := box_cell H4.out 4 rfl
  have T4 := Lib.hid T4
  go_wp2_with fail
  clear c4_0
  refine (l_text p (Also S w.heap.size) _ _ s4 _ hs4 L4 R4.left).mono ?_
  rintro e w5 ⟨rfl, K5, x5, E5, L5, T5⟩
  have R5 := R4.on T5
  have G5 := G4.trans K5.out
  have H5 := Lib.hid (K5.row H4.out Also.new)
  have c5_0 := box_cell H5.out 5 rfl
  have T5 := Lib.hid T5
  go_wp2_with fail
  clear c5_0
  refine (l_text p (Also S w.heap.size) _ _ s5 _ hs5 L5 R5.left).mono ?_
  rintro e w6 ⟨rfl, K6, x6, E6, L6, T6⟩
  have R6 := R5.on T6
  have G6 := G5.trans K6.out
  have H6 := Lib.hid (K6.row H5.out Also.new)
  have c6_0 := box_cell H6.out 6 rfl
  have T6 := Lib.hid T6
  go_wp2_with fail
  clear c6_0
  refine (l_listColumn p (Also S w.heap.size) _ _ a6 l6 c6 _ _ L6 (I6.keep (fun _ => .inl) G6) R6.left).mono ?_
  rintro e w7 ⟨rfl, K7, x7, E7, L7, T7⟩
  have R7 := R6.on T7
  have G7 := G6.trans K7.out
  have H7 := Lib.hid (K7.row H6.out Also.new)
  have c7_0 := box_cell H7.out 7 rfl
  have c7_1 := box_cell H7.out 8 rfl
  have c7_2 := box_cell H7.out 9 rfl
  have c7_3 := box_cell H7.out 10 rfl
  have c7_4 := box_cell H7.out 11 rfl
  have c7_5 := box_cell H7.out 12 rfl
  have c7_6 := box_cell H7.out 13 rfl
  have c7_7 := box_cell H7.out 14 rfl
  have T7 := Lib.hid T7
  go_wp2_with fail
  clear c7_0 c7_1 c7_2 c7_3 c7_4 c7_5 c7_6 c7_7
  refine (l_rule p (Also S w.heap.size) _ _ _ _ _ L7 (I7.keep (fun _ => .inl) G7) R7.left).mono ?_
  rintro e w8 ⟨rfl, K8, x8, E8, L8, T8⟩
  have R8 := R7.on T8
  have G8 := G7.trans K8.out
  have H8 := Lib.hid (K8.row H7.out Also.new)
  have c8_0 := box_cell H8.out 15 rfl
  have T8 := Lib.hid T8
  go_wp2_with fail
  clear c8_0
  refine (l_number p (Also S w.heap.size) _ _ n8 _ L8 R8.left).mono ?_
  rintro e w9 ⟨rfl, K9, x9, E9, L9, T9⟩
  have R9 := R8.on T9
  have G9 := G8.trans K9.out
  have H9 := Lib.hid (K9.row H8.out Also.new)
  have c9_0 := box_cell H9.out 16 rfl
  have T9 := Lib.hid T9
  go_wp2_with fail
  clear c9_0
  refine (l_flag p (Also S w.heap.size) _ _ b9 _ L9 R9).mono ?_
  rintro e w10 ⟨rfl, K10, x10, E10, L10, T10⟩
  have T10 := Lib.hid T10
  go_wp2_with fail
  go_end0
  exact ⟨rfl, G9.trans K10.out, _, _, L10.out, HT.out ▸ (T1.out.trans (T2.out.trans (T3.out.trans (T4.out.trans (T5.out.trans (T6.out.trans (T7.out.trans (T8.out.trans (T9.out.trans T10.out)))))))))⟩

set_option maxRecDepth 100000 in
set_option maxHeartbeats 2000000 in
theorem l_op (p : Nat) (S : Nat → Prop) (xs : List UInt8) (E : Int) (cs : List Value) (ts : List Tok) (w : World) (hL : La w S p xs E) (hI : Is w S shOp cs ts) (hroom : Room xs ts) :
    Calls Try.prog 52 #[.pointer (some ⟨p, 0, none⟩), .agg cs.toArray] w (LPost w S p xs E ts) := by
  obtain ⟨n0, n1, n2, n3_0, s3_1, s3_2, s3_3, s3_4, s3_5, a3_6, l3_6, c3_6, s3_7_0, n3_7_1, a3_7_2, l3_7_2, c3_7_2, n3_7_3, n3_7_4, s3_7_5, s3_7_6, s3_7_7, n3_8, b3_9, n4, n5, n6, t3, rfl, hts, lo0, hi0, lo1, hi1, lo2, hi2, I3, lo4, hi4, lo5, hi5, lo6, hi6⟩ := open_Op hI
  have R0 : Room xs ([Tok.num n0] ++ ([Tok.num n1] ++ ([Tok.num n2] ++ (t3 ++ ([Tok.num n4] ++ ([Tok.num n5] ++ [Tok.num n6])))))) := hts ▸ hroom
  have HT := Lib.hid hts; clear hts
  have L0 := hL.boxed (.cells #[.int .i64 n0, .int .i64 n1, .int .i64 n2, .int .i64 n3_0, .string s3_1, .string s3_2, .string s3_3, .string s3_4, .string s3_5, .slice a3_6 l3_6 c3_6, .string s3_7_0, .int .i64 n3_7_1, .slice a3_7_2 l3_7_2 c3_7_2, .int .i64 n3_7_3, .int .i64 n3_7_4, .string s3_7_5, .string s3_7_6, .string s3_7_7, .int .i64 n3_8, .bool b3_9, .int .i64 n4, .int .i64 n5, .int .i64 n6] 72)
  have G0 : Keeps S w (w.alloc (.cells #[.int .i64 n0, .int .i64 n1, .int .i64 n2, .int .i64 n3_0, .string s3_1, .string s3_2, .string s3_3, .string s3_4, .string s3_5, .slice a3_6 l3_6 c3_6, .string s3_7_0, .int .i64 n3_7_1, .slice a3_7_2 l3_7_2 c3_7_2, .int .i64 n3_7_3, .int .i64 n3_7_4, .string s3_7_5, .string s3_7_6, .string s3_7_7, .int .i64 n3_8, .bool b3_9, .int .i64 n4, .int .i64 n5, .int .i64 n6] 72)) := Keeps.refl.alloc _
  have H0 := Lib.hid (heap_alloc_new w (.cells #[.int .i64 n0, .int .i64 n1, .int .i64 n2, .int .i64 n3_0, .string s3_1, .string s3_2, .string s3_3, .string s3_4, .string s3_5, .slice a3_6 l3_6 c3_6, .string s3_7_0, .int .i64 n3_7_1, .slice a3_7_2 l3_7_2 c3_7_2, .int .i64 n3_7_3, .int .i64 n3_7_4, .string s3_7_5, .string s3_7_6, .string s3_7_7, .int .i64 n3_8, .bool b3_9, .int .i64 n4, .int .i64 n5, .int .i64 n6] 72))
  go_enter Try.func52, Try.ntmps52
  go_wp2_with fail
  refine (l_number p (Also S w.heap.size) _ _ n0 _ L0 R0.left).mono ?_
  rintro e w1 ⟨rfl, K1, x1, E1, L1, T1⟩
  have R1 := R0.on T1
  have G1 := G0.trans K1.out
  have H1 := Lib.hid (K1.row H0.out Also.new)
  have c1_0 := box_cell H1.out 1 rfl
  have T1 := Lib.hid T1
  go_wp2_with fail
  clear c1_0
  refine (l_number p (Also S w.heap.size) _ _ n1 _ L1 R1.left).mono ?_
  rintro e w2 ⟨rfl, K2, x2, E2, L2, T2⟩
  have R2 := R1.on T2
  have G2 := G1.trans K2.out
  have H2 := Lib.hid (K2.row H1.out Also.new)
  have c2_0 := box_cell H2.out 2 rfl
  have T2 := Lib.hid T2
  go_wp2_with fail
  clear c2_0
  refine (l_number p (Also S w.heap.size) _ _ n2 _ L2 R2.left).mono ?_
  rintro e w3 ⟨rfl, K3, x3, E3, L3, T3⟩
  have R3 := R2.on T3
  have G3 := G2.trans K3.out
  have H3 := Lib.hid (K3.row H2.out Also.new)
  have c3_0 := box_cell H3.out 3 rfl
  have c3_1 := box_cell H3.out 4 rfl
  have c3_2 := box_cell H3.out 5 rfl
  have c3_3 := box_cell H3.out 6 rfl
  have c3_4 := box_cell H3.out 7 rfl
  have c3_5 := box_cell H3.out 8 rfl
  have c3_6 := box_cell H3.out 9 rfl
  have c3_7 := box_cell H3.out 10 rfl
  have c3_8 := box_cell H3.out 11 rfl
  have c3_9 := box_cell H3.out 12 rfl
  have c3_10 := box_cell H3.out 13 rfl
  have c3_11 := box_cell H3.out 14 rfl
  have c3_12 := box_cell H3.out 15 rfl
  have c3_13 := box_cell H3.out 16 rfl
  have c3_14 := box_cell H3.out 17 rfl
  have c3_15 := box_cell H3.out 18 rfl
  have c3_16 := box_cell H3.out 19 rfl
  have T3 := Lib.hid T3
  go_wp2_with fail
  clear c3_0 c3_1 c3_2 c3_3 c3_4 c3_5 c3_6 c3_7 c3_8 c3_9 c3_10 c3_11 c3_12 c3_13 c3_14 c3_15 c3_16
  refine (l_command p (Also S w.heap.size) _ _ _ _ _ L3 (I3.keep (fun _ => .inl) G3) R3.left).mono ?_
  rintro e w4 ⟨rfl, K4, x4, E4, L4, T4⟩
  have R4 := R3.on T4
  have G4 := G3.trans K4.out
  have H4 := Lib.hid (K4.row H3.out Also.new)
  have c4_0 := box_cell H4.out 20 rfl
  have T4 := Lib.hid T4
  go_wp2_with fail
  clear c4_0
  refine (l_number p (Also S w.heap.size) _ _ n4 _ L4 R4.left).mono ?_
  rintro e w5 ⟨rfl, K5, x5, E5, L5, T5⟩
  have R5 := R4.on T5
  have G5 := G4.trans K5.out
  have H5 := Lib.hid (K5.row H4.out Also.new)
  have c5_0 := box_cell H5.out 21 rfl
  have T5 := Lib.hid T5
  go_wp2_with fail
  clear c5_0
  refine (l_number p (Also S w.heap.size) _ _ n5 _ L5 R5.left).mono ?_
  rintro e w6 ⟨rfl, K6, x6, E6, L6, T6⟩
  have R6 := R5.on T6
  have G6 := G5.trans K6.out
  have H6 := Lib.hid (K6.row H5.out Also.new)
  have c6_0 := box_cell H6.out 22 rfl
  have T6 := Lib.hid T6
  go_wp2_with fail
  clear c6_0
  refine (l_number p (Also S w.heap.size) _ _ n6 _ L6 R6).mono ?_
  rintro e w7 ⟨rfl, K7, x7, E7, L7, T7⟩
  have T7 := Lib.hid T7
  go_wp2_with fail
  go_end0
  exact ⟨rfl, G6.trans K7.out, _, _, L7.out, HT.out ▸ (T1.out.trans (T2.out.trans (T3.out.trans (T4.out.trans (T5.out.trans (T6.out.trans T7.out))))))⟩

set_option maxRecDepth 100000 in
set_option maxHeartbeats 2000000 in
theorem l_config (p : Nat) (S : Nat → Prop) (xs : List UInt8) (E : Int) (cs : List Value) (ts : List Tok) (w : World) (hL : La w S p xs E) (hI : Is w S shConfig cs ts) (hroom : Room xs ts) :
    Calls Try.prog 105 #[.pointer (some ⟨p, 0, none⟩), .agg cs.toArray] w (LPost w S p xs E ts) := by
  obtain ⟨a0, l0, c0, a1, l1, c1, t0, t1, rfl, hts, I0, I1⟩ := open_Config hI
  have R0 : Room xs (t0 ++ t1) := hts ▸ hroom
  have HT := Lib.hid hts; clear hts
  have L0 := hL.boxed (.cells #[.slice a0 l0 c0, .slice a1 l1 c1] 59)
  have G0 : Keeps S w (w.alloc (.cells #[.slice a0 l0 c0, .slice a1 l1 c1] 59)) := Keeps.refl.alloc _
  have H0 := Lib.hid (heap_alloc_new w (.cells #[.slice a0 l0 c0, .slice a1 l1 c1] 59))
  go_enter Try.func105, Try.ntmps105
  go_wp2_with fail
  refine (l_listNum p (Also S w.heap.size) _ _ a0 l0 c0 _ _ L0 (I0.keep (fun _ => .inl) G0) R0.left).mono ?_
  rintro e w1 ⟨rfl, K1, x1, E1, L1, T1⟩
  have R1 := R0.on T1
  have G1 := G0.trans K1.out
  have H1 := Lib.hid (K1.row H0.out Also.new)
  have c1_0 := box_cell H1.out 1 rfl
  have T1 := Lib.hid T1
  go_wp2_with fail
  clear c1_0
  refine (l_listNum p (Also S w.heap.size) _ _ a1 l1 c1 _ _ L1 (I1.keep (fun _ => .inl) G1) R1).mono ?_
  rintro e w2 ⟨rfl, K2, x2, E2, L2, T2⟩
  have T2 := Lib.hid T2
  go_wp2_with fail
  go_end0
  exact ⟨rfl, G1.trans K2.out, _, _, L2.out, HT.out ▸ (T1.out.trans T2.out)⟩

set_option maxRecDepth 100000 in
set_option maxHeartbeats 2000000 in
theorem l_record (p : Nat) (S : Nat → Prop) (xs : List UInt8) (E : Int) (cs : List Value) (ts : List Tok) (w : World) (hL : La w S p xs E) (hI : Is w S shRecord cs ts) (hroom : Room xs ts) :
    Calls Try.prog 46 #[.pointer (some ⟨p, 0, none⟩), .agg cs.toArray] w (LPost w S p xs E ts) := by
  obtain ⟨n0, n1, n2, n3_0, n3_1, n3_2, a3_3_0, l3_3_0, c3_3_0, a3_3_1, l3_3_1, c3_3_1, s3_4, n4, n5_0, n5_1, a5_2_0, l5_2_0, c5_2_0, a5_2_1, l5_2_1, c5_2_1, s5_3, t3, t5, rfl, hts, lo0, hi0, lo1, hi1, lo2, hi2, I3, lo4, hi4, I5⟩ := open_Record hI
  obtain ⟨yn3_0, yn3_1, yn3_2, ya3_3_0, yl3_3_0, yc3_3_0, ya3_3_1, yl3_3_1, yc3_3_1, ys3_4, t3_3, heq3, htt3, lo3_0, hi3_0, lo3_1, hi3_1, lo3_2, hi3_2, I3_3, hs3_4⟩ := open_Entry I3
  simp only [List.cons.injEq, Value.int.injEq, Value.string.injEq, Value.slice.injEq, true_and, and_true] at heq3
  obtain ⟨rfl, rfl, rfl, ⟨rfl, rfl, rfl⟩, ⟨rfl, rfl, rfl⟩, rfl⟩ := heq3
  subst htt3
  obtain ⟨yn5_0, yn5_1, ya5_2_0, yl5_2_0, yc5_2_0, ya5_2_1, yl5_2_1, yc5_2_1, ys5_3, t5_2, heq5, htt5, lo5_0, hi5_0, lo5_1, hi5_1, I5_2, hs5_3⟩ := open_Snapshot I5
  simp only [List.cons.injEq, Value.int.injEq, Value.string.injEq, Value.slice.injEq, true_and, and_true] at heq5
  obtain ⟨rfl, rfl, ⟨rfl, rfl, rfl⟩, ⟨rfl, rfl, rfl⟩, rfl⟩ := heq5
  subst htt5
  simp only [List.append_assoc] at hts
  have R0 : Room xs ([Tok.num n0] ++ ([Tok.num n1] ++ ([Tok.num n2] ++ ([Tok.num n3_0] ++ ([Tok.num n3_1] ++ ([Tok.num n3_2] ++ (t3_3 ++ ([Tok.text s3_4.data.toList] ++ ([Tok.num n4] ++ ([Tok.num n5_0] ++ ([Tok.num n5_1] ++ (t5_2 ++ [Tok.text s5_3.data.toList])))))))))))) := hts ▸ hroom
  have HT := Lib.hid hts; clear hts
  have L0 := hL.boxed (.cells #[.int .i64 n0, .int .i64 n1, .int .i64 n2, .int .i64 n3_0, .int .i64 n3_1, .int .i64 n3_2, .slice a3_3_0 l3_3_0 c3_3_0, .slice a3_3_1 l3_3_1 c3_3_1, .string s3_4, .int .i64 n4, .int .i64 n5_0, .int .i64 n5_1, .slice a5_2_0 l5_2_0 c5_2_0, .slice a5_2_1 l5_2_1 c5_2_1, .string s5_3] 65)
  have G0 : Keeps S w (w.alloc (.cells #[.int .i64 n0, .int .i64 n1, .int .i64 n2, .int .i64 n3_0, .int .i64 n3_1, .int .i64 n3_2, .slice a3_3_0 l3_3_0 c3_3_0, .slice a3_3_1 l3_3_1 c3_3_1, .string s3_4, .int .i64 n4, .int .i64 n5_0, .int .i64 n5_1, .slice a5_2_0 l5_2_0 c5_2_0, .slice a5_2_1 l5_2_1 c5_2_1, .string s5_3] 65)) := Keeps.refl.alloc _
  have H0 := Lib.hid (heap_alloc_new w (.cells #[.int .i64 n0, .int .i64 n1, .int .i64 n2, .int .i64 n3_0, .int .i64 n3_1, .int .i64 n3_2, .slice a3_3_0 l3_3_0 c3_3_0, .slice a3_3_1 l3_3_1 c3_3_1, .string s3_4, .int .i64 n4, .int .i64 n5_0, .int .i64 n5_1, .slice a5_2_0 l5_2_0 c5_2_0, .slice a5_2_1 l5_2_1 c5_2_1, .string s5_3] 65))
  go_enter Try.func46, Try.ntmps46
  go_wp2_with fail
  refine (l_number p (Also S w.heap.size) _ _ n0 _ L0 R0.left).mono ?_
  rintro e w1 ⟨rfl, K1, x1, E1, L1, T1⟩
  have R1 := R0.on T1
  have G1 := G0.trans K1.out
  have H1 := Lib.hid (K1.row H0.out Also.new)
  have c1_0 := box_cell H1.out 1 rfl
  have T1 := Lib.hid T1
  go_wp2_with fail
  clear c1_0
  refine (l_number p (Also S w.heap.size) _ _ n1 _ L1 R1.left).mono ?_
  rintro e w2 ⟨rfl, K2, x2, E2, L2, T2⟩
  have R2 := R1.on T2
  have G2 := G1.trans K2.out
  have H2 := Lib.hid (K2.row H1.out Also.new)
  have c2_0 := box_cell H2.out 2 rfl
  have T2 := Lib.hid T2
  go_wp2_with fail
  clear c2_0
  refine (l_number p (Also S w.heap.size) _ _ n2 _ L2 R2.left).mono ?_
  rintro e w3 ⟨rfl, K3, x3, E3, L3, T3⟩
  have R3 := R2.on T3
  have G3 := G2.trans K3.out
  have H3 := Lib.hid (K3.row H2.out Also.new)
  have c3_0 := box_cell H3.out 3 rfl
  have T3 := Lib.hid T3
  go_wp2_with fail
  clear c3_0
  refine (l_number p (Also S w.heap.size) _ _ n3_0 _ L3 R3.left).mono ?_
  rintro e w4 ⟨rfl, K4, x4, E4, L4, T4⟩
  have R4 := R3.on T4
  have G4 := G3.trans K4.out
  have H4 := Lib.hid (K4.row H3.out Also.new)
  have c4_0 := box_cell H4.out 4 rfl
  have T4 := Lib.hid T4
  go_wp2_with fail
  clear c4_0
  refine (l_number p (Also S w.heap.size) _ _ n3_1 _ L4 R4.left).mono ?_
  rintro e w5 ⟨rfl, K5, x5, E5, L5, T5⟩
  have R5 := R4.on T5
  have G5 := G4.trans K5.out
  have H5 := Lib.hid (K5.row H4.out Also.new)
  have c5_0 := box_cell H5.out 5 rfl
  have T5 := Lib.hid T5
  go_wp2_with fail
  clear c5_0
  refine (l_number p (Also S w.heap.size) _ _ n3_2 _ L5 R5.left).mono ?_
  rintro e w6 ⟨rfl, K6, x6, E6, L6, T6⟩
  have R6 := R5.on T6
  have G6 := G5.trans K6.out
  have H6 := Lib.hid (K6.row H5.out Also.new)
  have c6_0 := box_cell H6.out 6 rfl
  have c6_1 := box_cell H6.out 7 rfl
  have T6 := Lib.hid T6
  go_wp2_with fail
  clear c6_0 c6_1
  refine (l_config p (Also S w.heap.size) _ _ _ _ _ L6 (I3_3.keep (fun _ => .inl) G6) R6.left).mono ?_
  rintro e w7 ⟨rfl, K7, x7, E7, L7, T7⟩
  have R7 := R6.on T7
  have G7 := G6.trans K7.out
  have H7 := Lib.hid (K7.row H6.out Also.new)
  have c7_0 := box_cell H7.out 8 rfl
  have T7 := Lib.hid T7
  go_wp2_with fail
  clear c7_0
  refine (l_text p (Also S w.heap.size) _ _ s3_4 _ hs3_4 L7 R7.left).mono ?_
  rintro e w8 ⟨rfl, K8, x8, E8, L8, T8⟩
  have R8 := R7.on T8
  have G8 := G7.trans K8.out
  have H8 := Lib.hid (K8.row H7.out Also.new)
  have c8_0 := box_cell H8.out 9 rfl
  have T8 := Lib.hid T8
  go_wp2_with fail
  clear c8_0
  refine (l_number p (Also S w.heap.size) _ _ n4 _ L8 R8.left).mono ?_
  rintro e w9 ⟨rfl, K9, x9, E9, L9, T9⟩
  have R9 := R8.on T9
  have G9 := G8.trans K9.out
  have H9 := Lib.hid (K9.row H8.out Also.new)
  have c9_0 := box_cell H9.out 10 rfl
  have T9 := Lib.hid T9
  go_wp2_with fail
  clear c9_0
  refine (l_number p (Also S w.heap.size) _ _ n5_0 _ L9 R9.left).mono ?_
  rintro e w10 ⟨rfl, K10, x10, E10, L10, T10⟩
  have R10 := R9.on T10
  have G10 := G9.trans K10.out
  have H10 := Lib.hid (K10.row H9.out Also.new)
  have c10_0 := box_cell H10.out 11 rfl
  have T10 := Lib.hid T10
  go_wp2_with fail
  clear c10_0
  refine (l_number p (Also S w.heap.size) _ _ n5_1 _ L10 R10.left).mono ?_
  rintro e w11 ⟨rfl, K11, x11, E11, L11, T11⟩
  have R11 := R10.on T11
  have G11 := G10.trans K11.out
  have H11 := Lib.hid (K11.row H10.out Also.new)
  have c11_0 := box_cell H11.out 12 rfl
  have c11_1 := box_cell H11.out 13 rfl
  have T11 := Lib.hid T11
  go_wp2_with fail
  clear c11_0 c11_1
  refine (l_config p (Also S w.heap.size) _ _ _ _ _ L11 (I5_2.keep (fun _ => .inl) G11) R11.left).mono ?_
  rintro e w12 ⟨rfl, K12, x12, E12, L12, T12⟩
  have R12 := R11.on T12
  have G12 := G11.trans K12.out
  have H12 := Lib.hid (K12.row H11.out Also.new)
  have c12_0 := box_cell H12.out 14 rfl
  have T12 := Lib.hid T12
  go_wp2_with fail
  clear c12_0
  refine (l_text p (Also S w.heap.size) _ _ s5_3 _ hs5_3 L12 R12).mono ?_
  rintro e w13 ⟨rfl, K13, x13, E13, L13, T13⟩
  have T13 := Lib.hid T13
  go_wp2_with fail
  go_end0
  exact ⟨rfl, G12.trans K13.out, _, _, L13.out, HT.out ▸ (T1.out.trans (T2.out.trans (T3.out.trans (T4.out.trans (T5.out.trans (T6.out.trans (T7.out.trans (T8.out.trans (T9.out.trans (T10.out.trans (T11.out.trans (T12.out.trans T13.out))))))))))))⟩

end Go.Proofs.Ytbhpbiimfcdgaaa
