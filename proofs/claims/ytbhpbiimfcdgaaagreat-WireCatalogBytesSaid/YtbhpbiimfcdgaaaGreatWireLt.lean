/-
  The document's writer, by contract: tables, objects (made by wip/gen_wire.py)
-/
import Derived.Test.YtbhpbiimfcdgaaaGreatWireLb
namespace Go.Proofs.YtbhpbiimfcdgaaaGreat
open Go.RowKit
set_option linter.unusedVariables false

theorem LStep.skip {xs x' : List UInt8} {E E' : Int} {a : List Tok} (h : LStep xs E a x' E') (hne : E' ≠ 0) (b : List Tok) : LStep xs E (a ++ b) x' E' := by
  obtain ⟨h1, h2, h3⟩ := h
  refine ⟨?_, fun h0 => absurd h0 hne, by rw [wtL_append]; omega⟩
  rw [h1, firstF_append]
  by_cases e : E = 0
  · rw [if_pos e] at h1
    simp only [e, if_true]
    rw [if_neg (by rw [← h1]; exact hne)]
  · simp [e]
theorem stop_ne {E : Int} : (if E = 0 then (2 : Int) else E) ≠ 0 := by
  by_cases e : E = 0 <;> simp [e]

set_option maxRecDepth 100000 in
set_option maxHeartbeats 2000000 in
theorem l_table (p : Nat) (S : Nat → Prop) (xs : List UInt8) (E : Int) (cs : List Value) (ts : List Tok) (w : World) (hL : La w S p xs E) (hI : Is w S shTable cs ts) (hroom : Room xs ts) :
    Calls Tryz.prog 81 #[.pointer (some ⟨p, 0, none⟩), .agg cs.toArray] w (LPost w S p xs E ts) := by
  obtain ⟨s0, s1, s2, a3, l3, c3, a4, l4, c4, t3, t4, rfl, hts, hs0, hs1, hs2, I3, I4⟩ := open_Table hI
  clear hI
  have R0 : Room xs ([Tok.text s0.data.toList] ++ ([Tok.text s1.data.toList] ++ ([Tok.text s2.data.toList] ++ (t3 ++ t4)))) := hts ▸ hroom
  have HT := Lib.hid hts; clear hts
  obtain ⟨_, _, _, xss4, he4, hlc4, hcm4, hxl4, hrd4, hcase4⟩ := I4
  simp only [List.cons.injEq, Value.slice.injEq, and_true] at he4
  obtain ⟨rfl, rfl, rfl⟩ := he4
  have hlm4 : l4 ≤ maxLen := by omega
  have hl634 : l4 ≤ 9223372036854775807 := by unfold maxLen at hcm4; omega
  have HXL4 := Lib.hid hxl4; clear hxl4
  have HC4 := Lib.hid hcase4; clear hcase4
  have RD4 := Lib.hid hrd4; clear hrd4
  have L0 := hL.boxed (.cells #[.string s0, .string s1, .string s2, .slice a3 l3 c3, .slice a4 l4 c4] 104)
  have G0 : Keeps S w (w.alloc (.cells #[.string s0, .string s1, .string s2, .slice a3 l3 c3, .slice a4 l4 c4] 104)) := Keeps.refl.alloc _
  have H0 := Lib.hid (heap_alloc_new w (.cells #[.string s0, .string s1, .string s2, .slice a3 l3 c3, .slice a4 l4 c4] 104))
  go_enter Tryz.func81, Tryz.ntmps81
  go_wp2_with fail
  refine (l_text p (Also S w.heap.size) _ _ s0 _ hs0 L0 R0.left).mono ?_
  rintro e w1 ⟨rfl, K1, x1, E1, L1, T1⟩
  have R1 := R0.on T1
  have G1 := G0.trans K1.out
  have H1 := Lib.hid (K1.row H0.out Also.new)
  have T1 := Lib.hid T1
  have c1_0 := box_cell H1.out 1 rfl
  go_wp2_with fail
  clear c1_0
  refine (l_text p (Also S w.heap.size) _ _ s1 _ hs1 L1 R1.left).mono ?_
  rintro e w2 ⟨rfl, K2, x2, E2, L2, T2⟩
  have R2 := R1.on T2
  have G2 := G1.trans K2.out
  have H2 := Lib.hid (K2.row H1.out Also.new)
  have T2 := Lib.hid T2
  have c2_0 := box_cell H2.out 2 rfl
  go_wp2_with fail
  clear c2_0
  refine (l_text p (Also S w.heap.size) _ _ s2 _ hs2 L2 R2.left).mono ?_
  rintro e w3 ⟨rfl, K3, x3, E3, L3, T3⟩
  have R3 := R2.on T3
  have G3 := G2.trans K3.out
  have H3 := Lib.hid (K3.row H2.out Also.new)
  have T3 := Lib.hid T3
  have c3_0 := box_cell H3.out 3 rfl
  go_wp2_with fail
  clear c3_0
  refine (l_listColumn p (Also S w.heap.size) _ _ a3 l3 c3 _ _ L3 (I3.keep (fun _ => .inl) G3) R3.left).mono ?_
  rintro e w4 ⟨rfl, K4, x4, E4, L4, T4⟩
  have R4 := R3.on T4
  have G4 := G3.trans K4.out
  have H4 := Lib.hid (K4.row H3.out Also.new)
  have T4 := Lib.hid T4
  have c4_0 := box_cell H4.out 4 rfl
  go_wp2_with fail
  clear c4_0
  have Rm4 : Room x4 [.many l4] := by
    have h := R4
    rcases HC4.out with ⟨_, e⟩ | ⟨_, _, _, e, _⟩
    · rw [e] at h; exact h
    · rw [e] at h; exact Room.left (show Room x4 ([.many l4] ++ _) from h)
  refine (l_many p (Also S w.heap.size) _ _ l4 _ hlm4 L4 Rm4).mono ?_
  rintro e v4 ⟨Km4, ⟨rfl, hle4, rfl, Lm4⟩ | ⟨hno, rfl, Lm4⟩⟩
  case inr =>
    have Lm4 := Lib.hid Lm4
    go_wp2_with fail
    first | go_end0 | refine bodyPost_ret (results_none rfl _ _ _) rfl ?_
    exact ⟨rfl, G4.trans Km4.out, _, _, Lm4.out.out, HT.out ▸ (T1.out.trans (T2.out.trans (T3.out.trans (T4.out.trans (list_stop HC4.out hno)))))⟩
  rcases HC4.out with ⟨h4, _⟩ | ⟨tss4, _, htl4, hts4, hel4⟩
  · omega
  have HT4 : Hid (t4 = [.many l4] ++ tss4.flatten) := Lib.hid hts4
  clear hts4
  have HTL4 := Lib.hid htl4; clear htl4
  have Tm4 : LStep x4 0 [.many l4] (x4 ++ bytesL [.many l4]) 0 := many_step hle4
  have Rf4 : Room (x4 ++ bytesL [.many l4]) tss4.flatten := by
    have h := R4; rw [HT4.out] at h; exact h.on Tm4
  have Hm4 := Lib.hid (Km4.row H4.out Also.new)
  have Gm4 := G4.trans Km4.out
  have hel4 := Lib.hid hel4
  go_wp2_with fail
  go_loopw [4] (fun i wr => ∃ (k : Nat) (xs' : List UInt8) (E' : Int), k ≤ l4 ∧ i = .int .i64 k ∧ Keeps (Also S w.heap.size) v4 wr ∧ La wr (Also S w.heap.size) p xs' E' ∧ LStep (x4 ++ bytesL [.many l4]) 0 (tss4.take k).flatten xs' E') (fun i _ => l4 - (intOf i).toNat)
  case atStart => exact ⟨0, _, _, Nat.zero_le _, rfl, Keeps.refl, Lm4, LStep.done⟩
  case round =>
    obtain ⟨k, x5, E5, hk, rfl, Kr, Lr, Tr⟩ := hrel
    have Hb4 := Lib.hid (Kr.row Hm4.out Also.new)
    have cr := box_cell Hb4.out 4 rfl
    by_cases hlt : k < l4
    · obtain ⟨x, hx⟩ : ∃ x, xss4[k]? = some x := ⟨_, List.getElem?_eq_getElem (by rw [HXL4.out]; exact hlt)⟩
      obtain ⟨t, ht⟩ : ∃ t, tss4[k]? = some t := ⟨_, List.getElem?_eq_getElem (by rw [HTL4.out]; exact hlt)⟩
      have hIe := (hel4.out k x t hx ht).keep (S' := (Also S w.heap.size)) (fun _ => .inl) (Gm4.trans Kr.out)
      have hrdk := RD4.out.keep (S' := (Also S w.heap.size)) (fun _ => .inl) (Gm4.trans Kr.out)
      have Rr : Room x5 t := by
        have h := Rf4; rw [flatten_split ht] at h; exact (h.on Tr).left
      have FS := Lib.hid (flatten_succ ht)
      rcases hrdk with h0 | ⟨b, o, rfl, hSb, hcell⟩
      · have := HXL4.out; rw [h0] at this; simp at this; omega
      have hc := hcell k x hx
      obtain ⟨se0, ne1, ae2, le2, ce2, ne3, ne4, se5, se6, se7, rfl⟩ := cells_Rule hIe
      have hc0 : wr.cell? ⟨b, o + k * 8, none⟩ = some (.string se0) := hc 0 _ rfl
      have hc1 : wr.cell? ⟨b, o + k * 8 + 1, none⟩ = some (.int .i64 ne1) := hc 1 _ rfl
      have hc2 : wr.cell? ⟨b, o + k * 8 + 2, none⟩ = some (.slice ae2 le2 ce2) := hc 2 _ rfl
      have hc3 : wr.cell? ⟨b, o + k * 8 + 3, none⟩ = some (.int .i64 ne3) := hc 3 _ rfl
      have hc4 : wr.cell? ⟨b, o + k * 8 + 4, none⟩ = some (.int .i64 ne4) := hc 4 _ rfl
      have hc5 : wr.cell? ⟨b, o + k * 8 + 5, none⟩ = some (.string se5) := hc 5 _ rfl
      have hc6 : wr.cell? ⟨b, o + k * 8 + 6, none⟩ = some (.string se6) := hc 6 _ rfl
      have hc7 : wr.cell? ⟨b, o + k * 8 + 7, none⟩ = some (.string se7) := hc 7 _ rfl
      have Hx := Lib.hid hx; clear hx
      have Ht := Lib.hid ht; clear ht
      clear hc hcell
      have Tr := Lib.hid Tr
      go_wp2_with fail
      refine (l_rule p (Also S w.heap.size) _ _ _ t _ Lr hIe Rr).mono ?_
      rintro e wc ⟨rfl, Kc, xc, Ec, Lc, Tc⟩
      have Tc := Lib.hid Tc
      have Lc := Lib.hid Lc
      go_wp2_with fail
      go_roundw
      case rel => exact ⟨k + 1, _, _, by omega, by go_num, (Kr.trans Kc), Lc.out, by rw [FS.out]; exact Tr.out.trans Tc.out⟩
      case measure => simp [intOf]; omega
    · have hkl : k = l4 := by omega
      have FE := show (tss4.take k).flatten = tss4.flatten by rw [List.take_of_length_le (by rw [HTL4.out]; omega)]
      have T5 : LStep x4 0 t4 x5 E5 := by
        rw [FE] at Tr; rw [HT4.out]; exact Tm4.trans Tr
      clear FE Tr hkl
      have K5 := Km4.trans Kr
      have G5 := G4.trans K5.out
      have H5 := Lib.hid Hb4.out
      have L5 := Lr
      have T5 := Lib.hid T5
      go_wp2_with fail
      go_end0
      exact ⟨rfl, G5, _, _, L5.out, HT.out ▸ (T1.out.trans (T2.out.trans (T3.out.trans (T4.out.trans T5.out))))⟩

set_option maxRecDepth 100000 in
set_option maxHeartbeats 2000000 in
theorem l_objects (p : Nat) (S : Nat → Prop) (xs : List UInt8) (E : Int) (cs : List Value) (ts : List Tok) (w : World) (hL : La w S p xs E) (hI : Is w S shObjects cs ts) (hroom : Room xs ts) :
    Calls Tryz.prog 50 #[.pointer (some ⟨p, 0, none⟩), .agg cs.toArray] w (LPost w S p xs E ts) := by
  obtain ⟨a0, l0, c0, a1, l1, c1, t0, t1, rfl, hts, I0, I1⟩ := open_Objects hI
  clear hI
  have R0 : Room xs (t0 ++ t1) := hts ▸ hroom
  have HT := Lib.hid hts; clear hts
  obtain ⟨_, _, _, xss0, he0, hlc0, hcm0, hxl0, hrd0, hcase0⟩ := I0
  simp only [List.cons.injEq, Value.slice.injEq, and_true] at he0
  obtain ⟨rfl, rfl, rfl⟩ := he0
  have hlm0 : l0 ≤ maxLen := by omega
  have hl630 : l0 ≤ 9223372036854775807 := by unfold maxLen at hcm0; omega
  have HXL0 := Lib.hid hxl0; clear hxl0
  have HC0 := Lib.hid hcase0; clear hcase0
  have RD0 := Lib.hid hrd0; clear hrd0
  obtain ⟨_, _, _, xss1, he1, hlc1, hcm1, hxl1, hrd1, hcase1⟩ := I1
  simp only [List.cons.injEq, Value.slice.injEq, and_true] at he1
  obtain ⟨rfl, rfl, rfl⟩ := he1
  have hlm1 : l1 ≤ maxLen := by omega
  have hl631 : l1 ≤ 9223372036854775807 := by unfold maxLen at hcm1; omega
  have HXL1 := Lib.hid hxl1; clear hxl1
  have HC1 := Lib.hid hcase1; clear hcase1
  have RD1 := Lib.hid hrd1; clear hrd1
  have L0 := hL.boxed (.cells #[.slice a0 l0 c0, .slice a1 l1 c1] 27)
  have G0 : Keeps S w (w.alloc (.cells #[.slice a0 l0 c0, .slice a1 l1 c1] 27)) := Keeps.refl.alloc _
  have H0 := Lib.hid (heap_alloc_new w (.cells #[.slice a0 l0 c0, .slice a1 l1 c1] 27))
  go_enter Tryz.func50, Tryz.ntmps50
  go_wp2_with fail
  have Rm0 : Room xs [.many l0] := by
    have h := R0.left
    rcases HC0.out with ⟨_, e⟩ | ⟨_, _, _, e, _⟩
    · rw [e] at h; exact h
    · rw [e] at h; exact Room.left (show Room xs ([.many l0] ++ _) from h)
  refine (l_many p (Also S w.heap.size) _ _ l0 _ hlm0 L0 Rm0).mono ?_
  rintro e v0 ⟨Km0, ⟨rfl, hle0, rfl, Lm0⟩ | ⟨hno, rfl, Lm0⟩⟩
  case inr =>
    have Lm0 := Lib.hid Lm0
    go_wp2_with fail
    first | go_end0 | refine bodyPost_ret (results_none rfl _ _ _) rfl ?_
    exact ⟨rfl, G0.trans Km0.out, _, _, Lm0.out.out, HT.out ▸ ((list_stop HC0.out hno).skip stop_ne _)⟩
  rcases HC0.out with ⟨h4, _⟩ | ⟨tss0, _, htl0, hts0, hel0⟩
  · omega
  have HT0 : Hid (t0 = [.many l0] ++ tss0.flatten) := Lib.hid hts0
  clear hts0
  have HTL0 := Lib.hid htl0; clear htl0
  have Tm0 : LStep xs 0 [.many l0] (xs ++ bytesL [.many l0]) 0 := many_step hle0
  have Rf0 : Room (xs ++ bytesL [.many l0]) tss0.flatten := by
    have h := R0.left; rw [HT0.out] at h; exact h.on Tm0
  have Hm0 := Lib.hid (Km0.row H0.out Also.new)
  have Gm0 := G0.trans Km0.out
  have hel0 := Lib.hid hel0
  go_wp2_with fail
  go_loopw [4] (fun i wr => ∃ (k : Nat) (xs' : List UInt8) (E' : Int), k ≤ l0 ∧ i = .int .i64 k ∧ Keeps (Also S w.heap.size) v0 wr ∧ La wr (Also S w.heap.size) p xs' E' ∧ LStep (xs ++ bytesL [.many l0]) 0 (tss0.take k).flatten xs' E') (fun i _ => l0 - (intOf i).toNat)
  case atStart => exact ⟨0, _, _, Nat.zero_le _, rfl, Keeps.refl, Lm0, LStep.done⟩
  case round =>
    obtain ⟨k, x1, E1, hk, rfl, Kr, Lr, Tr⟩ := hrel
    have Hb0 := Lib.hid (Kr.row Hm0.out Also.new)
    have cr := box_cell Hb0.out 0 rfl
    by_cases hlt : k < l0
    · obtain ⟨x, hx⟩ : ∃ x, xss0[k]? = some x := ⟨_, List.getElem?_eq_getElem (by rw [HXL0.out]; exact hlt)⟩
      obtain ⟨t, ht⟩ : ∃ t, tss0[k]? = some t := ⟨_, List.getElem?_eq_getElem (by rw [HTL0.out]; exact hlt)⟩
      have hIe := (hel0.out k x t hx ht).keep (S' := (Also S w.heap.size)) (fun _ => .inl) (Gm0.trans Kr.out)
      have hrdk := RD0.out.keep (S' := (Also S w.heap.size)) (fun _ => .inl) (Gm0.trans Kr.out)
      have Rr : Room x1 t := by
        have h := Rf0; rw [flatten_split ht] at h; exact (h.on Tr).left
      have FS := Lib.hid (flatten_succ ht)
      rcases hrdk with h0 | ⟨b, o, rfl, hSb, hcell⟩
      · have := HXL0.out; rw [h0] at this; simp at this; omega
      have hc := hcell k x hx
      obtain ⟨se0, se1, rfl, htt, hse0, hse1⟩ := open_Schema hIe
      have hc0 : wr.cell? ⟨b, o + k * 2, none⟩ = some (.string se0) := hc 0 _ rfl
      have hc1 : wr.cell? ⟨b, o + k * 2 + 1, none⟩ = some (.string se1) := hc 1 _ rfl
      have hc1 := Lib.hid hc1
      have U0 : Room x1 ([Tok.text se0.data.toList] ++ [Tok.text se1.data.toList]) := htt ▸ Rr
      have HTT := Lib.hid htt; clear htt
      have Hx := Lib.hid hx; clear hx
      have Ht := Lib.hid ht; clear ht
      clear hc hcell
      have Tr := Lib.hid Tr
      go_wp2_with fail
      clear cr
      refine (l_text p (Also S w.heap.size) _ _ se0 _ hse0 Lr U0.left).mono ?_
      rintro e u0 ⟨rfl, KK0, y0, F0, LL0, TT0⟩
      have U1 := U0.on TT0
      clear hc0
      have hc1 := KK0.cell hc1.out hSb
      have Hd0 := Lib.hid (KK0.row Hb0.out Also.new)
      have cr := box_cell Hd0.out 0 rfl
      have TT0 := Lib.hid TT0
      go_wp2_with fail
      clear cr
      refine (l_text p (Also S w.heap.size) _ _ se1 _ hse1 LL0 U1).mono ?_
      rintro e u1 ⟨rfl, KK1, y1, F1, LL1, TT1⟩
      have TT1 := Lib.hid TT1
      have LL1 := Lib.hid LL1
      go_wp2_with fail
      go_roundw
      case rel => exact ⟨k + 1, _, _, by omega, by go_num, ((Kr.trans KK0).trans KK1), LL1.out, by rw [FS.out]; exact Tr.out.trans (HTT.out ▸ (TT0.out.trans TT1.out))⟩
      case measure => simp [intOf]; omega
    · have hkl : k = l0 := by omega
      have FE := show (tss0.take k).flatten = tss0.flatten by rw [List.take_of_length_le (by rw [HTL0.out]; omega)]
      have T1 : LStep xs 0 t0 x1 E1 := by
        rw [FE] at Tr; rw [HT0.out]; exact Tm0.trans Tr
      clear FE Tr hkl
      have K1 := Km0.trans Kr
      have G1 := G0.trans K1.out
      have H1 := Lib.hid Hb0.out
      have L1 := Lr
      have R1 := R0.on T1
      have T1 := Lib.hid T1
      have c1_0 := box_cell H1.out 1 rfl
      go_wp2_with fail
      clear c1_0
      have Rm1 : Room x1 [.many l1] := by
        have h := R1
        rcases HC1.out with ⟨_, e⟩ | ⟨_, _, _, e, _⟩
        · rw [e] at h; exact h
        · rw [e] at h; exact Room.left (show Room x1 ([.many l1] ++ _) from h)
      refine (l_many p (Also S w.heap.size) _ _ l1 _ hlm1 L1 Rm1).mono ?_
      rintro e v1 ⟨Km1, ⟨rfl, hle1, rfl, Lm1⟩ | ⟨hno, rfl, Lm1⟩⟩
      case inr =>
        have Lm1 := Lib.hid Lm1
        go_wp2_with fail
        first | go_end0 | refine bodyPost_ret (results_none rfl _ _ _) rfl ?_
        exact ⟨rfl, G1.trans Km1.out, _, _, Lm1.out.out, HT.out ▸ (T1.out.trans (list_stop HC1.out hno))⟩
      rcases HC1.out with ⟨h4, _⟩ | ⟨tss1, _, htl1, hts1, hel1⟩
      · omega
      have HT1 : Hid (t1 = [.many l1] ++ tss1.flatten) := Lib.hid hts1
      clear hts1
      have HTL1 := Lib.hid htl1; clear htl1
      have Tm1 : LStep x1 0 [.many l1] (x1 ++ bytesL [.many l1]) 0 := many_step hle1
      have Rf1 : Room (x1 ++ bytesL [.many l1]) tss1.flatten := by
        have h := R1; rw [HT1.out] at h; exact h.on Tm1
      have Hm1 := Lib.hid (Km1.row H1.out Also.new)
      have Gm1 := G1.trans Km1.out
      have hel1 := Lib.hid hel1
      go_wp2_with fail
      go_loopw [5] (fun i wr => ∃ (k : Nat) (xs' : List UInt8) (E' : Int), k ≤ l1 ∧ i = .int .i64 k ∧ Keeps (Also S w.heap.size) v1 wr ∧ La wr (Also S w.heap.size) p xs' E' ∧ LStep (x1 ++ bytesL [.many l1]) 0 (tss1.take k).flatten xs' E') (fun i _ => l1 - (intOf i).toNat)
      case atStart => exact ⟨0, _, _, Nat.zero_le _, rfl, Keeps.refl, Lm1, LStep.done⟩
      case round =>
        obtain ⟨k, x2, E2, hk, rfl, Kr, Lr, Tr⟩ := hrel
        have Hb1 := Lib.hid (Kr.row Hm1.out Also.new)
        have cr := box_cell Hb1.out 1 rfl
        by_cases hlt : k < l1
        · obtain ⟨x, hx⟩ : ∃ x, xss1[k]? = some x := ⟨_, List.getElem?_eq_getElem (by rw [HXL1.out]; exact hlt)⟩
          obtain ⟨t, ht⟩ : ∃ t, tss1[k]? = some t := ⟨_, List.getElem?_eq_getElem (by rw [HTL1.out]; exact hlt)⟩
          have hIe := (hel1.out k x t hx ht).keep (S' := (Also S w.heap.size)) (fun _ => .inl) (Gm1.trans Kr.out)
          have hrdk := RD1.out.keep (S' := (Also S w.heap.size)) (fun _ => .inl) (Gm1.trans Kr.out)
          have Rr : Room x2 t := by
            have h := Rf1; rw [flatten_split ht] at h; exact (h.on Tr).left
          have FS := Lib.hid (flatten_succ ht)
          rcases hrdk with h0 | ⟨b, o, rfl, hSb, hcell⟩
          · have := HXL1.out; rw [h0] at this; simp at this; omega
          have hc := hcell k x hx
          obtain ⟨se0, se1, se2, ae3, le3, ce3, ae4, le4, ce4, rfl⟩ := cells_Table hIe
          have hc0 : wr.cell? ⟨b, o + k * 5, none⟩ = some (.string se0) := hc 0 _ rfl
          have hc1 : wr.cell? ⟨b, o + k * 5 + 1, none⟩ = some (.string se1) := hc 1 _ rfl
          have hc2 : wr.cell? ⟨b, o + k * 5 + 2, none⟩ = some (.string se2) := hc 2 _ rfl
          have hc3 : wr.cell? ⟨b, o + k * 5 + 3, none⟩ = some (.slice ae3 le3 ce3) := hc 3 _ rfl
          have hc4 : wr.cell? ⟨b, o + k * 5 + 4, none⟩ = some (.slice ae4 le4 ce4) := hc 4 _ rfl
          have Hx := Lib.hid hx; clear hx
          have Ht := Lib.hid ht; clear ht
          clear hc hcell
          have Tr := Lib.hid Tr
          go_wp2_with fail
          refine (l_table p (Also S w.heap.size) _ _ _ t _ Lr hIe Rr).mono ?_
          rintro e wc ⟨rfl, Kc, xc, Ec, Lc, Tc⟩
          have Tc := Lib.hid Tc
          have Lc := Lib.hid Lc
          go_wp2_with fail
          go_roundw
          case rel => exact ⟨k + 1, _, _, by omega, by go_num, (Kr.trans Kc), Lc.out, by rw [FS.out]; exact Tr.out.trans Tc.out⟩
          case measure => simp [intOf]; omega
        · have hkl : k = l1 := by omega
          have FE := show (tss1.take k).flatten = tss1.flatten by rw [List.take_of_length_le (by rw [HTL1.out]; omega)]
          have T2 : LStep x1 0 t1 x2 E2 := by
            rw [FE] at Tr; rw [HT1.out]; exact Tm1.trans Tr
          clear FE Tr hkl
          have K2 := Km1.trans Kr
          have G2 := G1.trans K2.out
          have H2 := Lib.hid Hb1.out
          have L2 := Lr
          have T2 := Lib.hid T2
          go_wp2_with fail
          go_end0
          exact ⟨rfl, G2, _, _, L2.out, HT.out ▸ (T1.out.trans T2.out)⟩

end Go.Proofs.YtbhpbiimfcdgaaaGreat
