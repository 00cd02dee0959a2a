/-
  The document's writer, by contract: catalogs, machines (made by wip/gen_wire.py)
-/
import Derived.Test.YtbhpbiimfcdgaaaGreatWireLt
namespace Go.Proofs.YtbhpbiimfcdgaaaGreat
open Go.RowKit
set_option linter.unusedVariables false

set_option maxRecDepth 100000 in
set_option maxHeartbeats 2000000 in
theorem l_catalog (p : Nat) (S : Nat → Prop) (xs : List UInt8) (E : Int) (cs : List Value) (ts : List Tok) (w : World) (hL : La w S p xs E) (hI : Is w S shCatalog cs ts) (hroom : Room xs ts) :
    Calls Tryz.prog 19 #[.pointer (some ⟨p, 0, none⟩), .agg cs.toArray] w (LPost w S p xs E ts) := by
  obtain ⟨n0, n1, a2, l2, c2, a3, l3, c3, a4, l4, c4, a5, l5, c5, a6, l6, c6, t2, t3, t4, t5, t6, rfl, hts, lo0, hi0, lo1, hi1, I2, I3, I4, I5, I6⟩ := open_Catalog hI
  clear hI
  have hts : ts = [Tok.num n0] ++ ([Tok.num n1] ++ ((t2 ++ t3) ++ (t4 ++ (t5 ++ t6)))) := by rw [hts]; simp only [List.append_assoc]
  have R0 : Room xs ([Tok.num n0] ++ ([Tok.num n1] ++ ((t2 ++ t3) ++ (t4 ++ (t5 ++ t6))))) := hts ▸ hroom
  have HT := Lib.hid hts; clear hts
  obtain ⟨_, _, _, xss5, he5, hlc5, hcm5, hxl5, hrd5, hcase5⟩ := I5
  simp only [List.cons.injEq, Value.slice.injEq, and_true] at he5
  obtain ⟨rfl, rfl, rfl⟩ := he5
  have hlm5 : l5 ≤ maxLen := by omega
  have hl635 : l5 ≤ 9223372036854775807 := by unfold maxLen at hcm5; omega
  have HXL5 := Lib.hid hxl5; clear hxl5
  have HC5 := Lib.hid hcase5; clear hcase5
  have RD5 := Lib.hid hrd5; clear hrd5
  obtain ⟨_, _, _, xss6, he6, hlc6, hcm6, hxl6, hrd6, hcase6⟩ := I6
  simp only [List.cons.injEq, Value.slice.injEq, and_true] at he6
  obtain ⟨rfl, rfl, rfl⟩ := he6
  have hlm6 : l6 ≤ maxLen := by omega
  have hl636 : l6 ≤ 9223372036854775807 := by unfold maxLen at hcm6; omega
  have HXL6 := Lib.hid hxl6; clear hxl6
  have HC6 := Lib.hid hcase6; clear hcase6
  have RD6 := Lib.hid hrd6; clear hrd6
  have L0 := hL.boxed (.cells #[.int .i64 n0, .int .i64 n1, .slice a2 l2 c2, .slice a3 l3 c3, .slice a4 l4 c4, .slice a5 l5 c5, .slice a6 l6 c6] 34)
  have G0 : Keeps S w (w.alloc (.cells #[.int .i64 n0, .int .i64 n1, .slice a2 l2 c2, .slice a3 l3 c3, .slice a4 l4 c4, .slice a5 l5 c5, .slice a6 l6 c6] 34)) := Keeps.refl.alloc _
  have H0 := Lib.hid (heap_alloc_new w (.cells #[.int .i64 n0, .int .i64 n1, .slice a2 l2 c2, .slice a3 l3 c3, .slice a4 l4 c4, .slice a5 l5 c5, .slice a6 l6 c6] 34))
  go_enter Tryz.func19, Tryz.ntmps19
  go_wp2_with fail
  refine (l_number p (Also S w.heap.size) _ _ n0 _ L0 R0.left).mono ?_
  rintro e w1 ⟨rfl, K1, x1, E1, L1, T1⟩
  have R1 := R0.on T1
  have G1 := G0.trans K1.out
  have H1 := Lib.hid (K1.row H0.out Also.new)
  have T1 := Lib.hid T1
  have c1_0 := box_cell H1.out 1 rfl
  go_wp2_with fail
  clear c1_0
  refine (l_number p (Also S w.heap.size) _ _ n1 _ L1 R1.left).mono ?_
  rintro e w2 ⟨rfl, K2, x2, E2, L2, T2⟩
  have R2 := R1.on T2
  have G2 := G1.trans K2.out
  have H2 := Lib.hid (K2.row H1.out Also.new)
  have T2 := Lib.hid T2
  have c2_0 := box_cell H2.out 2 rfl
  have c2_1 := box_cell H2.out 3 rfl
  go_wp2_with fail
  clear c2_0 c2_1
  refine (l_objects p (Also S w.heap.size) _ _ _ _ _ L2 (mk_Objects (I2.keep (fun _ => .inl) G2) (I3.keep (fun _ => .inl) G2)) R2.left).mono ?_
  rintro e w3 ⟨rfl, K3, x3, E3, L3, T3⟩
  have R3 := R2.on T3
  have G3 := G2.trans K3.out
  have H3 := Lib.hid (K3.row H2.out Also.new)
  have T3 := Lib.hid T3
  have c3_0 := box_cell H3.out 4 rfl
  go_wp2_with fail
  clear c3_0
  refine (l_listText p (Also S w.heap.size) _ _ a4 l4 c4 _ _ L3 (I4.keep (fun _ => .inl) G3) R3.left).mono ?_
  rintro e w4 ⟨rfl, K4, x4, E4, L4, T4⟩
  have R4 := R3.on T4
  have G4 := G3.trans K4.out
  have H4 := Lib.hid (K4.row H3.out Also.new)
  have T4 := Lib.hid T4
  have c4_0 := box_cell H4.out 5 rfl
  go_wp2_with fail
  clear c4_0
  have Rm4 : Room x4 [.many l5] := by
    have h := R4.left
    rcases HC5.out with ⟨_, e⟩ | ⟨_, _, _, e, _⟩
    · rw [e] at h; exact h
    · rw [e] at h; exact Room.left (show Room x4 ([.many l5] ++ _) from h)
  refine (l_many p (Also S w.heap.size) _ _ l5 _ hlm5 L4 Rm4).mono ?_
  rintro e v4 ⟨Km4, ⟨rfl, hle4, rfl, Lm4⟩ | ⟨hno, rfl, Lm4⟩⟩
  case inr =>
    have Lm4 := Lib.hid Lm4
    go_wp2_with fail
    first | go_end0 | refine bodyPost_ret (results_none rfl _ _ _) rfl ?_
    exact ⟨rfl, G4.trans Km4.out, _, _, Lm4.out.out, HT.out ▸ (T1.out.trans (T2.out.trans (T3.out.trans (T4.out.trans ((list_stop HC5.out hno).skip stop_ne _)))))⟩
  rcases HC5.out with ⟨h4, _⟩ | ⟨tss5, _, htl5, hts5, hel5⟩
  · omega
  have HT5 : Hid (t5 = [.many l5] ++ tss5.flatten) := Lib.hid hts5
  clear hts5
  have HTL5 := Lib.hid htl5; clear htl5
  have Tm4 : LStep x4 0 [.many l5] (x4 ++ bytesL [.many l5]) 0 := many_step hle4
  have Rf4 : Room (x4 ++ bytesL [.many l5]) tss5.flatten := by
    have h := R4.left; rw [HT5.out] at h; exact h.on Tm4
  have Hm4 := Lib.hid (Km4.row H4.out Also.new)
  have Gm4 := G4.trans Km4.out
  have hel5 := Lib.hid hel5
  go_wp2_with fail
  go_loopw [4] (fun i wr => ∃ (k : Nat) (xs' : List UInt8) (E' : Int), k ≤ l5 ∧ i = .int .i64 k ∧ Keeps (Also S w.heap.size) v4 wr ∧ La wr (Also S w.heap.size) p xs' E' ∧ LStep (x4 ++ bytesL [.many l5]) 0 (tss5.take k).flatten xs' E') (fun i _ => l5 - (intOf i).toNat)
  case atStart => exact ⟨0, _, _, Nat.zero_le _, rfl, Keeps.refl, Lm4, LStep.done⟩
  case round =>
    obtain ⟨k, x5, E5, hk, rfl, Kr, Lr, Tr⟩ := hrel
    have Hb4 := Lib.hid (Kr.row Hm4.out Also.new)
    have cr := box_cell Hb4.out 5 rfl
    by_cases hlt : k < l5
    · obtain ⟨x, hx⟩ : ∃ x, xss5[k]? = some x := ⟨_, List.getElem?_eq_getElem (by rw [HXL5.out]; exact hlt)⟩
      obtain ⟨t, ht⟩ : ∃ t, tss5[k]? = some t := ⟨_, List.getElem?_eq_getElem (by rw [HTL5.out]; exact hlt)⟩
      have hIe := (hel5.out k x t hx ht).keep (S' := (Also S w.heap.size)) (fun _ => .inl) (Gm4.trans Kr.out)
      have hrdk := RD5.out.keep (S' := (Also S w.heap.size)) (fun _ => .inl) (Gm4.trans Kr.out)
      have Rr : Room x5 t := by
        have h := Rf4; rw [flatten_split ht] at h; exact (h.on Tr).left
      have FS := Lib.hid (flatten_succ ht)
      rcases hrdk with h0 | ⟨b, o, rfl, hSb, hcell⟩
      · have := HXL5.out; rw [h0] at this; simp at this; omega
      have hc := hcell k x hx
      obtain ⟨se0, se1, rfl, htt, hse0, hse1⟩ := open_Member hIe
      have hc0 : wr.cell? ⟨b, o + k * 2, none⟩ = some (.string se0) := hc 0 _ rfl
      have hc1 : wr.cell? ⟨b, o + k * 2 + 1, none⟩ = some (.string se1) := hc 1 _ rfl
      have hc1 := Lib.hid hc1
      have U0 : Room x5 ([Tok.text se0.data.toList] ++ [Tok.text se1.data.toList]) := htt ▸ Rr
      have HTT := Lib.hid htt; clear htt
      have Hx := Lib.hid hx; clear hx
      have Ht := Lib.hid ht; clear ht
      clear hc hcell
      have Tr := Lib.hid Tr
      go_wp2_with fail
      clear cr
      refine (l_text p (Also S w.heap.size) _ _ se0 _ hse0 Lr U0.left).mono ?_
      rintro e u0 ⟨rfl, KK0, y0, F0, LL0, TT0⟩
      have U1 := U0.on TT0
      clear hc0
      have hc1 := KK0.cell hc1.out hSb
      have Hd0 := Lib.hid (KK0.row Hb4.out Also.new)
      have cr := box_cell Hd0.out 5 rfl
      have TT0 := Lib.hid TT0
      go_wp2_with fail
      clear cr
      refine (l_text p (Also S w.heap.size) _ _ se1 _ hse1 LL0 U1).mono ?_
      rintro e u1 ⟨rfl, KK1, y1, F1, LL1, TT1⟩
      have TT1 := Lib.hid TT1
      have LL1 := Lib.hid LL1
      go_wp2_with fail
      go_roundw
      case rel => exact ⟨k + 1, _, _, by omega, by go_num, ((Kr.trans KK0).trans KK1), LL1.out, by rw [FS.out]; exact Tr.out.trans (HTT.out ▸ (TT0.out.trans TT1.out))⟩
      case measure => simp [intOf]; omega
    · have hkl : k = l5 := by omega
      have FE := show (tss5.take k).flatten = tss5.flatten by rw [List.take_of_length_le (by rw [HTL5.out]; omega)]
      have T5 : LStep x4 0 t5 x5 E5 := by
        rw [FE] at Tr; rw [HT5.out]; exact Tm4.trans Tr
      clear FE Tr hkl
      have K5 := Km4.trans Kr
      have G5 := G4.trans K5.out
      have H5 := Lib.hid Hb4.out
      have L5 := Lr
      have R5 := R4.on T5
      have T5 := Lib.hid T5
      have c5_0 := box_cell H5.out 6 rfl
      go_wp2_with fail
      clear c5_0
      have Rm5 : Room x5 [.many l6] := by
        have h := R5
        rcases HC6.out with ⟨_, e⟩ | ⟨_, _, _, e, _⟩
        · rw [e] at h; exact h
        · rw [e] at h; exact Room.left (show Room x5 ([.many l6] ++ _) from h)
      refine (l_many p (Also S w.heap.size) _ _ l6 _ hlm6 L5 Rm5).mono ?_
      rintro e v5 ⟨Km5, ⟨rfl, hle5, rfl, Lm5⟩ | ⟨hno, rfl, Lm5⟩⟩
      case inr =>
        have Lm5 := Lib.hid Lm5
        go_wp2_with fail
        first | go_end0 | refine bodyPost_ret (results_none rfl _ _ _) rfl ?_
        exact ⟨rfl, G5.trans Km5.out, _, _, Lm5.out.out, HT.out ▸ (T1.out.trans (T2.out.trans (T3.out.trans (T4.out.trans (T5.out.trans (list_stop HC6.out hno))))))⟩
      rcases HC6.out with ⟨h4, _⟩ | ⟨tss6, _, htl6, hts6, hel6⟩
      · omega
      have HT6 : Hid (t6 = [.many l6] ++ tss6.flatten) := Lib.hid hts6
      clear hts6
      have HTL6 := Lib.hid htl6; clear htl6
      have Tm5 : LStep x5 0 [.many l6] (x5 ++ bytesL [.many l6]) 0 := many_step hle5
      have Rf5 : Room (x5 ++ bytesL [.many l6]) tss6.flatten := by
        have h := R5; rw [HT6.out] at h; exact h.on Tm5
      have Hm5 := Lib.hid (Km5.row H5.out Also.new)
      have Gm5 := G5.trans Km5.out
      have hel6 := Lib.hid hel6
      go_wp2_with fail
      go_loopw [5] (fun i wr => ∃ (k : Nat) (xs' : List UInt8) (E' : Int), k ≤ l6 ∧ i = .int .i64 k ∧ Keeps (Also S w.heap.size) v5 wr ∧ La wr (Also S w.heap.size) p xs' E' ∧ LStep (x5 ++ bytesL [.many l6]) 0 (tss6.take k).flatten xs' E') (fun i _ => l6 - (intOf i).toNat)
      case atStart => exact ⟨0, _, _, Nat.zero_le _, rfl, Keeps.refl, Lm5, LStep.done⟩
      case round =>
        obtain ⟨k, x6, E6, hk, rfl, Kr, Lr, Tr⟩ := hrel
        have Hb5 := Lib.hid (Kr.row Hm5.out Also.new)
        have cr := box_cell Hb5.out 6 rfl
        by_cases hlt : k < l6
        · obtain ⟨x, hx⟩ : ∃ x, xss6[k]? = some x := ⟨_, List.getElem?_eq_getElem (by rw [HXL6.out]; exact hlt)⟩
          obtain ⟨t, ht⟩ : ∃ t, tss6[k]? = some t := ⟨_, List.getElem?_eq_getElem (by rw [HTL6.out]; exact hlt)⟩
          have hIe := (hel6.out k x t hx ht).keep (S' := (Also S w.heap.size)) (fun _ => .inl) (Gm5.trans Kr.out)
          have hrdk := RD6.out.keep (S' := (Also S w.heap.size)) (fun _ => .inl) (Gm5.trans Kr.out)
          have Rr : Room x6 t := by
            have h := Rf5; rw [flatten_split ht] at h; exact (h.on Tr).left
          have FS := Lib.hid (flatten_succ ht)
          rcases hrdk with h0 | ⟨b, o, rfl, hSb, hcell⟩
          · have := HXL6.out; rw [h0] at this; simp at this; omega
          have hc := hcell k x hx
          obtain ⟨se0, se1, ne2, se3, se4, be5, rfl, htt, hse0, hse1, loe2, hie2, hse3, hse4⟩ := open_Grant hIe
          have hc0 : wr.cell? ⟨b, o + k * 6, none⟩ = some (.string se0) := hc 0 _ rfl
          have hc1 : wr.cell? ⟨b, o + k * 6 + 1, none⟩ = some (.string se1) := hc 1 _ rfl
          have hc2 : wr.cell? ⟨b, o + k * 6 + 2, none⟩ = some (.int .i64 ne2) := hc 2 _ rfl
          have hc3 : wr.cell? ⟨b, o + k * 6 + 3, none⟩ = some (.string se3) := hc 3 _ rfl
          have hc4 : wr.cell? ⟨b, o + k * 6 + 4, none⟩ = some (.string se4) := hc 4 _ rfl
          have hc5 : wr.cell? ⟨b, o + k * 6 + 5, none⟩ = some (.bool be5) := hc 5 _ rfl
          have U0 : Room x6 ([Tok.text se0.data.toList] ++ ([Tok.text se1.data.toList] ++ ([Tok.num ne2] ++ ([Tok.text se3.data.toList] ++ ([Tok.text se4.data.toList] ++ [Tok.flag be5]))))) := htt ▸ Rr
          have HTT := Lib.hid htt; clear htt
          have Hx := Lib.hid hx; clear hx
          have Ht := Lib.hid ht; clear ht
          clear hc hcell
          have Tr := Lib.hid Tr
          have Lb := Lr.boxed (.cells #[.string se0, .string se1, .int .i64 ne2, .string se3, .string se4, .bool be5] 117)
          have Gb : Keeps (Also S w.heap.size) wr (wr.alloc (.cells #[.string se0, .string se1, .int .i64 ne2, .string se3, .string se4, .bool be5] 117)) := Keeps.refl.alloc _
          have Hn := Lib.hid (heap_alloc_new wr (.cells #[.string se0, .string se1, .int .i64 ne2, .string se3, .string se4, .bool be5] 117))
          go_wp2_with fail
          clear cr hc0 hc1 hc2 hc3 hc4 hc5
          refine (l_text p (Also (Also S w.heap.size) wr.heap.size) _ _ se0 _ hse0 Lb U0.left).mono ?_
          rintro e u0 ⟨rfl, KK0, y0, F0, LL0, TT0⟩
          have U1 := U0.on TT0
          have Hn0 := Lib.hid (KK0.row Hn.out Also.new)
          have ce := box_cell Hn0.out 1 rfl
          have TT0 := Lib.hid TT0
          go_wp2_with fail
          clear ce
          refine (l_text p (Also (Also S w.heap.size) wr.heap.size) _ _ se1 _ hse1 LL0 U1.left).mono ?_
          rintro e u1 ⟨rfl, KK1, y1, F1, LL1, TT1⟩
          have U2 := U1.on TT1
          have Hn1 := Lib.hid (KK1.row Hn0.out Also.new)
          have ce := box_cell Hn1.out 2 rfl
          have TT1 := Lib.hid TT1
          go_wp2_with fail
          clear ce
          refine (l_number p (Also (Also S w.heap.size) wr.heap.size) _ _ ne2 _ LL1 U2.left).mono ?_
          rintro e u2 ⟨rfl, KK2, y2, F2, LL2, TT2⟩
          have U3 := U2.on TT2
          have Hn2 := Lib.hid (KK2.row Hn1.out Also.new)
          have ce := box_cell Hn2.out 3 rfl
          have TT2 := Lib.hid TT2
          go_wp2_with fail
          clear ce
          refine (l_text p (Also (Also S w.heap.size) wr.heap.size) _ _ se3 _ hse3 LL2 U3.left).mono ?_
          rintro e u3 ⟨rfl, KK3, y3, F3, LL3, TT3⟩
          have U4 := U3.on TT3
          have Hn3 := Lib.hid (KK3.row Hn2.out Also.new)
          have ce := box_cell Hn3.out 4 rfl
          have TT3 := Lib.hid TT3
          go_wp2_with fail
          clear ce
          refine (l_text p (Also (Also S w.heap.size) wr.heap.size) _ _ se4 _ hse4 LL3 U4.left).mono ?_
          rintro e u4 ⟨rfl, KK4, y4, F4, LL4, TT4⟩
          have U5 := U4.on TT4
          have Hn4 := Lib.hid (KK4.row Hn3.out Also.new)
          have ce := box_cell Hn4.out 5 rfl
          have TT4 := Lib.hid TT4
          go_wp2_with fail
          clear ce
          refine (l_flag p (Also (Also S w.heap.size) wr.heap.size) _ _ be5 _ LL4 U5).mono ?_
          rintro e u5 ⟨rfl, KK5, y5, F5, LL5, TT5⟩
          have TT5 := Lib.hid TT5
          have LL5 := Lib.hid LL5.out
          go_wp2_with fail
          go_roundw
          case rel => exact ⟨k + 1, _, _, by omega, by go_num, (Kr.trans (Gb.trans (((((KK0.trans KK1).trans KK2).trans KK3).trans KK4).trans KK5).out)), LL5.out, by rw [FS.out]; exact Tr.out.trans (HTT.out ▸ (TT0.out.trans (TT1.out.trans (TT2.out.trans (TT3.out.trans (TT4.out.trans TT5.out))))))⟩
          case measure => simp [intOf]; omega
        · have hkl : k = l6 := by omega
          have FE := show (tss6.take k).flatten = tss6.flatten by rw [List.take_of_length_le (by rw [HTL6.out]; omega)]
          have T6 : LStep x5 0 t6 x6 E6 := by
            rw [FE] at Tr; rw [HT6.out]; exact Tm5.trans Tr
          clear FE Tr hkl
          have K6 := Km5.trans Kr
          have G6 := G5.trans K6.out
          have H6 := Lib.hid Hb5.out
          have L6 := Lr
          have T6 := Lib.hid T6
          go_wp2_with fail
          go_end0
          exact ⟨rfl, G6, _, _, L6.out, HT.out ▸ (T1.out.trans (T2.out.trans (T3.out.trans (T4.out.trans (T5.out.trans T6.out)))))⟩

set_option maxRecDepth 100000 in
set_option maxHeartbeats 2000000 in
theorem l_machine (p : Nat) (S : Nat → Prop) (xs : List UInt8) (E : Int) (cs : List Value) (ts : List Tok) (w : World) (hL : La w S p xs E) (hI : Is w S shMachine cs ts) (hroom : Room xs ts) :
    Calls Tryz.prog 27 #[.pointer (some ⟨p, 0, none⟩), .agg cs.toArray] w (LPost w S p xs E ts) := by
  obtain ⟨n0_0, n0_1, a0_2, l0_2, c0_2, a0_3, l0_3, c0_3, a0_4, l0_4, c0_4, a0_5, l0_5, c0_5, a0_6, l0_6, c0_6, a1, l1, c1, a2, l2, c2, n3, t0, t1, t2, rfl, hts, I0, I1, I2, lo3, hi3⟩ := open_Machine hI
  clear hI
  have R0 : Room xs (t0 ++ (t1 ++ (t2 ++ [Tok.num n3]))) := hts ▸ hroom
  have HT := Lib.hid hts; clear hts
  obtain ⟨_, _, _, xss1, he1, hlc1, hcm1, hxl1, hrd1, hcase1⟩ := I1
  simp only [List.cons.injEq, Value.slice.injEq, and_true] at he1
  obtain ⟨rfl, rfl, rfl⟩ := he1
  have hlm1 : l1 ≤ maxLen := by omega
  have hl631 : l1 ≤ 9223372036854775807 := by unfold maxLen at hcm1; omega
  have HXL1 := Lib.hid hxl1; clear hxl1
  have HC1 := Lib.hid hcase1; clear hcase1
  have RD1 := Lib.hid hrd1; clear hrd1
  obtain ⟨_, _, _, xss2, he2, hlc2, hcm2, hxl2, hrd2, hcase2⟩ := I2
  simp only [List.cons.injEq, Value.slice.injEq, and_true] at he2
  obtain ⟨rfl, rfl, rfl⟩ := he2
  have hlm2 : l2 ≤ maxLen := by omega
  have hl632 : l2 ≤ 9223372036854775807 := by unfold maxLen at hcm2; omega
  have HXL2 := Lib.hid hxl2; clear hxl2
  have HC2 := Lib.hid hcase2; clear hcase2
  have RD2 := Lib.hid hrd2; clear hrd2
  have L0 := hL.boxed (.cells #[.int .i64 n0_0, .int .i64 n0_1, .slice a0_2 l0_2 c0_2, .slice a0_3 l0_3 c0_3, .slice a0_4 l0_4 c0_4, .slice a0_5 l0_5 c0_5, .slice a0_6 l0_6 c0_6, .slice a1 l1 c1, .slice a2 l2 c2, .int .i64 n3] 46)
  have G0 : Keeps S w (w.alloc (.cells #[.int .i64 n0_0, .int .i64 n0_1, .slice a0_2 l0_2 c0_2, .slice a0_3 l0_3 c0_3, .slice a0_4 l0_4 c0_4, .slice a0_5 l0_5 c0_5, .slice a0_6 l0_6 c0_6, .slice a1 l1 c1, .slice a2 l2 c2, .int .i64 n3] 46)) := Keeps.refl.alloc _
  have H0 := Lib.hid (heap_alloc_new w (.cells #[.int .i64 n0_0, .int .i64 n0_1, .slice a0_2 l0_2 c0_2, .slice a0_3 l0_3 c0_3, .slice a0_4 l0_4 c0_4, .slice a0_5 l0_5 c0_5, .slice a0_6 l0_6 c0_6, .slice a1 l1 c1, .slice a2 l2 c2, .int .i64 n3] 46))
  go_enter Tryz.func27, Tryz.ntmps27
  go_wp2_with fail
  refine (l_catalog p (Also S w.heap.size) _ _ _ _ _ L0 (I0.keep (fun _ => .inl) G0) R0.left).mono ?_
  rintro e w1 ⟨rfl, K1, x1, E1, L1, T1⟩
  have R1 := R0.on T1
  have G1 := G0.trans K1.out
  have H1 := Lib.hid (K1.row H0.out Also.new)
  have T1 := Lib.hid T1
  have c1_0 := box_cell H1.out 7 rfl
  go_wp2_with fail
  clear c1_0
  have Rm1 : Room x1 [.many l1] := by
    have h := R1.left
    rcases HC1.out with ⟨_, e⟩ | ⟨_, _, _, e, _⟩
    · rw [e] at h; exact h
    · rw [e] at h; exact Room.left (show Room x1 ([.many l1] ++ _) from h)
  refine (l_many p (Also S w.heap.size) _ _ l1 _ hlm1 L1 Rm1).mono ?_
  rintro e v1 ⟨Km1, ⟨rfl, hle1, rfl, Lm1⟩ | ⟨hno, rfl, Lm1⟩⟩
  case inr =>
    have Lm1 := Lib.hid Lm1
    go_wp2_with fail
    first | go_end0 | refine bodyPost_ret (results_none rfl _ _ _) rfl ?_
    exact ⟨rfl, G1.trans Km1.out, _, _, Lm1.out.out, HT.out ▸ (T1.out.trans ((list_stop HC1.out hno).skip stop_ne _))⟩
  rcases HC1.out with ⟨h4, _⟩ | ⟨tss1, _, htl1, hts1, hel1⟩
  · omega
  have HT1 : Hid (t1 = [.many l1] ++ tss1.flatten) := Lib.hid hts1
  clear hts1
  have HTL1 := Lib.hid htl1; clear htl1
  have Tm1 : LStep x1 0 [.many l1] (x1 ++ bytesL [.many l1]) 0 := many_step hle1
  have Rf1 : Room (x1 ++ bytesL [.many l1]) tss1.flatten := by
    have h := R1.left; rw [HT1.out] at h; exact h.on Tm1
  have Hm1 := Lib.hid (Km1.row H1.out Also.new)
  have Gm1 := G1.trans Km1.out
  have hel1 := Lib.hid hel1
  go_wp2_with fail
  go_loopw [4] (fun i wr => ∃ (k : Nat) (xs' : List UInt8) (E' : Int), k ≤ l1 ∧ i = .int .i64 k ∧ Keeps (Also S w.heap.size) v1 wr ∧ La wr (Also S w.heap.size) p xs' E' ∧ LStep (x1 ++ bytesL [.many l1]) 0 (tss1.take k).flatten xs' E') (fun i _ => l1 - (intOf i).toNat)
  case atStart => exact ⟨0, _, _, Nat.zero_le _, rfl, Keeps.refl, Lm1, LStep.done⟩
  case round =>
    obtain ⟨k, x2, E2, hk, rfl, Kr, Lr, Tr⟩ := hrel
    have Hb1 := Lib.hid (Kr.row Hm1.out Also.new)
    have cr := box_cell Hb1.out 7 rfl
    by_cases hlt : k < l1
    · obtain ⟨x, hx⟩ : ∃ x, xss1[k]? = some x := ⟨_, List.getElem?_eq_getElem (by rw [HXL1.out]; exact hlt)⟩
      obtain ⟨t, ht⟩ : ∃ t, tss1[k]? = some t := ⟨_, List.getElem?_eq_getElem (by rw [HTL1.out]; exact hlt)⟩
      have hIe := (hel1.out k x t hx ht).keep (S' := (Also S w.heap.size)) (fun _ => .inl) (Gm1.trans Kr.out)
      have hrdk := RD1.out.keep (S' := (Also S w.heap.size)) (fun _ => .inl) (Gm1.trans Kr.out)
      have Rr : Room x2 t := by
        have h := Rf1; rw [flatten_split ht] at h; exact (h.on Tr).left
      have FS := Lib.hid (flatten_succ ht)
      rcases hrdk with h0 | ⟨b, o, rfl, hSb, hcell⟩
      · have := HXL1.out; rw [h0] at this; simp at this; omega
      have hc := hcell k x hx
      obtain ⟨ne0, ne1, ne2, ne3, ne4, rfl, htt, loe0, hie0, loe1, hie1, loe2, hie2, loe3, hie3, loe4, hie4⟩ := open_Done hIe
      have hc0 : wr.cell? ⟨b, o + k * 5, none⟩ = some (.int .i64 ne0) := hc 0 _ rfl
      have hc1 : wr.cell? ⟨b, o + k * 5 + 1, none⟩ = some (.int .i64 ne1) := hc 1 _ rfl
      have hc2 : wr.cell? ⟨b, o + k * 5 + 2, none⟩ = some (.int .i64 ne2) := hc 2 _ rfl
      have hc3 : wr.cell? ⟨b, o + k * 5 + 3, none⟩ = some (.int .i64 ne3) := hc 3 _ rfl
      have hc4 : wr.cell? ⟨b, o + k * 5 + 4, none⟩ = some (.int .i64 ne4) := hc 4 _ rfl
      have U0 : Room x2 ([Tok.num ne0] ++ ([Tok.num ne1] ++ ([Tok.num ne2] ++ ([Tok.num ne3] ++ [Tok.num ne4])))) := htt ▸ Rr
      have HTT := Lib.hid htt; clear htt
      have Hx := Lib.hid hx; clear hx
      have Ht := Lib.hid ht; clear ht
      clear hc hcell
      have Tr := Lib.hid Tr
      have Lb := Lr.boxed (.cells #[.int .i64 ne0, .int .i64 ne1, .int .i64 ne2, .int .i64 ne3, .int .i64 ne4] 145)
      have Gb : Keeps (Also S w.heap.size) wr (wr.alloc (.cells #[.int .i64 ne0, .int .i64 ne1, .int .i64 ne2, .int .i64 ne3, .int .i64 ne4] 145)) := Keeps.refl.alloc _
      have Hn := Lib.hid (heap_alloc_new wr (.cells #[.int .i64 ne0, .int .i64 ne1, .int .i64 ne2, .int .i64 ne3, .int .i64 ne4] 145))
      go_wp2_with fail
      clear cr hc0 hc1 hc2 hc3 hc4
      refine (l_number p (Also (Also S w.heap.size) wr.heap.size) _ _ ne0 _ Lb U0.left).mono ?_
      rintro e u0 ⟨rfl, KK0, y0, F0, LL0, TT0⟩
      have U1 := U0.on TT0
      have Hn0 := Lib.hid (KK0.row Hn.out Also.new)
      have ce := box_cell Hn0.out 1 rfl
      have TT0 := Lib.hid TT0
      go_wp2_with fail
      clear ce
      refine (l_number p (Also (Also S w.heap.size) wr.heap.size) _ _ ne1 _ LL0 U1.left).mono ?_
      rintro e u1 ⟨rfl, KK1, y1, F1, LL1, TT1⟩
      have U2 := U1.on TT1
      have Hn1 := Lib.hid (KK1.row Hn0.out Also.new)
      have ce := box_cell Hn1.out 2 rfl
      have TT1 := Lib.hid TT1
      go_wp2_with fail
      clear ce
      refine (l_number p (Also (Also S w.heap.size) wr.heap.size) _ _ ne2 _ LL1 U2.left).mono ?_
      rintro e u2 ⟨rfl, KK2, y2, F2, LL2, TT2⟩
      have U3 := U2.on TT2
      have Hn2 := Lib.hid (KK2.row Hn1.out Also.new)
      have ce := box_cell Hn2.out 3 rfl
      have TT2 := Lib.hid TT2
      go_wp2_with fail
      clear ce
      refine (l_number p (Also (Also S w.heap.size) wr.heap.size) _ _ ne3 _ LL2 U3.left).mono ?_
      rintro e u3 ⟨rfl, KK3, y3, F3, LL3, TT3⟩
      have U4 := U3.on TT3
      have Hn3 := Lib.hid (KK3.row Hn2.out Also.new)
      have ce := box_cell Hn3.out 4 rfl
      have TT3 := Lib.hid TT3
      go_wp2_with fail
      clear ce
      refine (l_number p (Also (Also S w.heap.size) wr.heap.size) _ _ ne4 _ LL3 U4).mono ?_
      rintro e u4 ⟨rfl, KK4, y4, F4, LL4, TT4⟩
      have TT4 := Lib.hid TT4
      have LL4 := Lib.hid LL4.out
      go_wp2_with fail
      go_roundw
      case rel => exact ⟨k + 1, _, _, by omega, by go_num, (Kr.trans (Gb.trans ((((KK0.trans KK1).trans KK2).trans KK3).trans KK4).out)), LL4.out, by rw [FS.out]; exact Tr.out.trans (HTT.out ▸ (TT0.out.trans (TT1.out.trans (TT2.out.trans (TT3.out.trans TT4.out)))))⟩
      case measure => simp [intOf]; omega
    · have hkl : k = l1 := by omega
      have FE := show (tss1.take k).flatten = tss1.flatten by rw [List.take_of_length_le (by rw [HTL1.out]; omega)]
      have T2 : LStep x1 0 t1 x2 E2 := by
        rw [FE] at Tr; rw [HT1.out]; exact Tm1.trans Tr
      clear FE Tr hkl
      have K2 := Km1.trans Kr
      have G2 := G1.trans K2.out
      have H2 := Lib.hid Hb1.out
      have L2 := Lr
      have R2 := R1.on T2
      have T2 := Lib.hid T2
      have c2_0 := box_cell H2.out 8 rfl
      go_wp2_with fail
      clear c2_0
      have Rm2 : Room x2 [.many l2] := by
        have h := R2.left
        rcases HC2.out with ⟨_, e⟩ | ⟨_, _, _, e, _⟩
        · rw [e] at h; exact h
        · rw [e] at h; exact Room.left (show Room x2 ([.many l2] ++ _) from h)
      refine (l_many p (Also S w.heap.size) _ _ l2 _ hlm2 L2 Rm2).mono ?_
      rintro e v2 ⟨Km2, ⟨rfl, hle2, rfl, Lm2⟩ | ⟨hno, rfl, Lm2⟩⟩
      case inr =>
        have Lm2 := Lib.hid Lm2
        go_wp2_with fail
        first | go_end0 | refine bodyPost_ret (results_none rfl _ _ _) rfl ?_
        exact ⟨rfl, G2.trans Km2.out, _, _, Lm2.out.out, HT.out ▸ (T1.out.trans (T2.out.trans ((list_stop HC2.out hno).skip stop_ne _)))⟩
      rcases HC2.out with ⟨h4, _⟩ | ⟨tss2, _, htl2, hts2, hel2⟩
      · omega
      have HT2 : Hid (t2 = [.many l2] ++ tss2.flatten) := Lib.hid hts2
      clear hts2
      have HTL2 := Lib.hid htl2; clear htl2
      have Tm2 : LStep x2 0 [.many l2] (x2 ++ bytesL [.many l2]) 0 := many_step hle2
      have Rf2 : Room (x2 ++ bytesL [.many l2]) tss2.flatten := by
        have h := R2.left; rw [HT2.out] at h; exact h.on Tm2
      have Hm2 := Lib.hid (Km2.row H2.out Also.new)
      have Gm2 := G2.trans Km2.out
      have hel2 := Lib.hid hel2
      go_wp2_with fail
      go_loopw [6] (fun i wr => ∃ (k : Nat) (xs' : List UInt8) (E' : Int), k ≤ l2 ∧ i = .int .i64 k ∧ Keeps (Also S w.heap.size) v2 wr ∧ La wr (Also S w.heap.size) p xs' E' ∧ LStep (x2 ++ bytesL [.many l2]) 0 (tss2.take k).flatten xs' E') (fun i _ => l2 - (intOf i).toNat)
      case atStart => exact ⟨0, _, _, Nat.zero_le _, rfl, Keeps.refl, Lm2, LStep.done⟩
      case round =>
        obtain ⟨k, x3, E3, hk, rfl, Kr, Lr, Tr⟩ := hrel
        have Hb2 := Lib.hid (Kr.row Hm2.out Also.new)
        have cr := box_cell Hb2.out 8 rfl
        by_cases hlt : k < l2
        · obtain ⟨x, hx⟩ : ∃ x, xss2[k]? = some x := ⟨_, List.getElem?_eq_getElem (by rw [HXL2.out]; exact hlt)⟩
          obtain ⟨t, ht⟩ : ∃ t, tss2[k]? = some t := ⟨_, List.getElem?_eq_getElem (by rw [HTL2.out]; exact hlt)⟩
          have hIe := (hel2.out k x t hx ht).keep (S' := (Also S w.heap.size)) (fun _ => .inl) (Gm2.trans Kr.out)
          have hrdk := RD2.out.keep (S' := (Also S w.heap.size)) (fun _ => .inl) (Gm2.trans Kr.out)
          have Rr : Room x3 t := by
            have h := Rf2; rw [flatten_split ht] at h; exact (h.on Tr).left
          have FS := Lib.hid (flatten_succ ht)
          rcases hrdk with h0 | ⟨b, o, rfl, hSb, hcell⟩
          · have := HXL2.out; rw [h0] at this; simp at this; omega
          have hc := hcell k x hx
          obtain ⟨ne0, ne1, ne2, ne3, rfl, htt, loe0, hie0, loe1, hie1, loe2, hie2, loe3, hie3⟩ := open_Lease hIe
          have hc0 : wr.cell? ⟨b, o + k * 4, none⟩ = some (.int .i64 ne0) := hc 0 _ rfl
          have hc1 : wr.cell? ⟨b, o + k * 4 + 1, none⟩ = some (.int .i64 ne1) := hc 1 _ rfl
          have hc2 : wr.cell? ⟨b, o + k * 4 + 2, none⟩ = some (.int .i64 ne2) := hc 2 _ rfl
          have hc3 : wr.cell? ⟨b, o + k * 4 + 3, none⟩ = some (.int .i64 ne3) := hc 3 _ rfl
          have U0 : Room x3 ([Tok.num ne0] ++ ([Tok.num ne1] ++ ([Tok.num ne2] ++ [Tok.num ne3]))) := htt ▸ Rr
          have HTT := Lib.hid htt; clear htt
          have Hx := Lib.hid hx; clear hx
          have Ht := Lib.hid ht; clear ht
          clear hc hcell
          have Tr := Lib.hid Tr
          have Lb := Lr.boxed (.cells #[.int .i64 ne0, .int .i64 ne1, .int .i64 ne2, .int .i64 ne3] 150)
          have Gb : Keeps (Also S w.heap.size) wr (wr.alloc (.cells #[.int .i64 ne0, .int .i64 ne1, .int .i64 ne2, .int .i64 ne3] 150)) := Keeps.refl.alloc _
          have Hn := Lib.hid (heap_alloc_new wr (.cells #[.int .i64 ne0, .int .i64 ne1, .int .i64 ne2, .int .i64 ne3] 150))
          go_wp2_with fail
          clear cr hc0 hc1 hc2 hc3
          refine (l_number p (Also (Also S w.heap.size) wr.heap.size) _ _ ne0 _ Lb U0.left).mono ?_
          rintro e u0 ⟨rfl, KK0, y0, F0, LL0, TT0⟩
          have U1 := U0.on TT0
          have Hn0 := Lib.hid (KK0.row Hn.out Also.new)
          have ce := box_cell Hn0.out 1 rfl
          have TT0 := Lib.hid TT0
          go_wp2_with fail
          clear ce
          refine (l_number p (Also (Also S w.heap.size) wr.heap.size) _ _ ne1 _ LL0 U1.left).mono ?_
          rintro e u1 ⟨rfl, KK1, y1, F1, LL1, TT1⟩
          have U2 := U1.on TT1
          have Hn1 := Lib.hid (KK1.row Hn0.out Also.new)
          have ce := box_cell Hn1.out 2 rfl
          have TT1 := Lib.hid TT1
          go_wp2_with fail
          clear ce
          refine (l_number p (Also (Also S w.heap.size) wr.heap.size) _ _ ne2 _ LL1 U2.left).mono ?_
          rintro e u2 ⟨rfl, KK2, y2, F2, LL2, TT2⟩
          have U3 := U2.on TT2
          have Hn2 := Lib.hid (KK2.row Hn1.out Also.new)
          have ce := box_cell Hn2.out 3 rfl
          have TT2 := Lib.hid TT2
          go_wp2_with fail
          clear ce
          refine (l_number p (Also (Also S w.heap.size) wr.heap.size) _ _ ne3 _ LL2 U3).mono ?_
          rintro e u3 ⟨rfl, KK3, y3, F3, LL3, TT3⟩
          have TT3 := Lib.hid TT3
          have LL3 := Lib.hid LL3.out
          go_wp2_with fail
          go_roundw
          case rel => exact ⟨k + 1, _, _, by omega, by go_num, (Kr.trans (Gb.trans (((KK0.trans KK1).trans KK2).trans KK3).out)), LL3.out, by rw [FS.out]; exact Tr.out.trans (HTT.out ▸ (TT0.out.trans (TT1.out.trans (TT2.out.trans TT3.out))))⟩
          case measure => simp [intOf]; omega
        · have hkl : k = l2 := by omega
          have FE := show (tss2.take k).flatten = tss2.flatten by rw [List.take_of_length_le (by rw [HTL2.out]; omega)]
          have T3 : LStep x2 0 t2 x3 E3 := by
            rw [FE] at Tr; rw [HT2.out]; exact Tm2.trans Tr
          clear FE Tr hkl
          have K3 := Km2.trans Kr
          have G3 := G2.trans K3.out
          have H3 := Lib.hid Hb2.out
          have L3 := Lr
          have R3 := R2.on T3
          have T3 := Lib.hid T3
          have c3_0 := box_cell H3.out 9 rfl
          go_wp2_with fail
          clear c3_0
          refine (l_number p (Also S w.heap.size) _ _ n3 _ L3 R3).mono ?_
          rintro e w4 ⟨rfl, K4, x4, E4, L4, T4⟩
          have G4 := G3.trans K4.out
          have H4 := Lib.hid (K4.row H3.out Also.new)
          have T4 := Lib.hid T4
          go_wp2_with fail
          go_end0
          exact ⟨rfl, G4, _, _, L4.out, HT.out ▸ (T1.out.trans (T2.out.trans (T3.out.trans T4.out)))⟩

end Go.Proofs.YtbhpbiimfcdgaaaGreat
