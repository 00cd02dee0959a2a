/-
  The document's reader, by contract: tables, objects (made by wip/gen_wire.py)
-/
import Derived.Test.YtbhpbiimfcdgaaaGreatWireCc
import Derived.Test.YtbhpbiimfcdgaaaGreatWireQ4
namespace Go.Proofs.YtbhpbiimfcdgaaaGreat
open Go.RowKit
set_option linter.unusedVariables false

/-- What 'many' came to. -/
def CountAt (bs : List UInt8) (i : Nat) (bad : Bool) (n j0 : Nat) (bad0 : Bool) : Prop :=
  (bad = false ∧ bad0 = false ∧ pNum 4096 (bs.drop i) = some (n, bs.drop j0)) ∨ (bad0 = true ∧ (bad = true ∨ pNum 4096 (bs.drop i) = none))
theorem parse_assoc (a b c : Sh) (bs : List UInt8) : parse (.two (.two a b) c) bs = parse (.two a (.two b c)) bs := by
  simp only [parse]
  cases parse a bs with
  | none => rfl
  | some x =>
    obtain ⟨ta, r⟩ := x
    simp only
    cases parse b r with
    | none => rfl
    | some y =>
      obtain ⟨tb, r2⟩ := y
      simp only
      cases parse c r2 with
      | none => rfl
      | some z => simp
theorem CStep.assoc {bs : List UInt8} {a b c : Sh} {i j : Nat} {b0 b1 : Bool} (h : CStep bs (.two (.two a b) c) i b0 j b1) : CStep bs (.two a (.two b c)) i b0 j b1 := by
  unfold CStep at *
  rwa [parse_assoc] at h
theorem row_alloc' {w : World} {k : Nat} {o ob : Obj} (h : w.heap[k]? = some o) : (w.alloc ob).heap[k]? = some o := (Below.heap_alloc _ _ _ (lt_of_block h)).trans h
theorem row_grown {w w' : World} {k lo : Nat} {o : Obj} {r : Option Nat} (h : w.heap[k]? = some o) (hg : w.grownBy w' r) (hr : ∀ j, r = some j → lo ≤ j) (hk : k < lo) : w'.heap[k]? = some o :=
  (hg.block k (lt_of_block h) (fun e => by have := hr k e.symm; omega)).trans h

set_option maxRecDepth 100000 in
set_option maxHeartbeats 8000000 in
theorem c_table (p c : Nat) (B : Nat) (bs : List UInt8) (i : Nat) (bad : Bool) (w : World) (h : Cu w p c B bs i bad) :
    Calls Tryz.prog 78 #[.pointer (some ⟨p, 0, none⟩)] w (CPost w p c B bs shTable i bad agg) := by
  obtain ⟨iRule, hiRule, hxRule, hyRule, hzRule⟩ := info_parts info_Rule
  have hsRule : (Tryz.prog.info? 67).map (·.size) = some 8 := by kernel_rfl
  have HSRule := Lib.hid hsRule; clear hsRule
  have hlo : ∀ g, w.heap.size ≤ g → B ≤ g ∧ g ≠ p ∧ g ≠ c := fun g hg => own_lt h hg
  have HLO := Lib.hid hlo; clear hlo
  have hlo2 : ∀ g, w.heap.size + 2 ≤ g → B ≤ g ∧ g ≠ p ∧ g ≠ c := fun g hg => HLO.out g (by omega)
  have HLO2 := Lib.hid hlo2; clear hlo2
  have hg := own_lt h (Nat.le_succ w.heap.size)
  have hp0 : Off2 p c w.heap.size := by have := own_lt h (Nat.le_refl w.heap.size); exact ⟨this.2.1, this.2.2⟩
  have hp1 : Off2 p c (w.heap.size + 1) := ⟨hg.2.1, hg.2.2⟩
  have C0 := (h.alloc (.cells #[.string ByteArray.empty, .string ByteArray.empty, .string ByteArray.empty, .slice none 0 0, .slice none 0 0] 104)).alloc (.cells #[.string ByteArray.empty, .string ByteArray.empty, .string ByteArray.empty, .slice none 0 0, .slice none 0 0] 104)
  have G0 : Keeps (Off2 p c) w ((w.alloc (.cells #[.string ByteArray.empty, .string ByteArray.empty, .string ByteArray.empty, .slice none 0 0, .slice none 0 0] 104)).alloc (.cells #[.string ByteArray.empty, .string ByteArray.empty, .string ByteArray.empty, .slice none 0 0, .slice none 0 0] 104)) := (Keeps.refl.alloc _).alloc _
  have A0 := Lib.hid (heap_alloc2_old w (.cells #[.string ByteArray.empty, .string ByteArray.empty, .string ByteArray.empty, .slice none 0 0, .slice none 0 0] 104) (.cells #[.string ByteArray.empty, .string ByteArray.empty, .string ByteArray.empty, .slice none 0 0, .slice none 0 0] 104))
  have D0 := Lib.hid (heap_alloc2_new w (.cells #[.string ByteArray.empty, .string ByteArray.empty, .string ByteArray.empty, .slice none 0 0, .slice none 0 0] 104) (.cells #[.string ByteArray.empty, .string ByteArray.empty, .string ByteArray.empty, .slice none 0 0, .slice none 0 0] 104))
  have hi : (Tryz.prog.info? 104).map (·.size) = some 5 := by kernel_rfl
  have HI := Lib.hid hi; clear hi
  have h1z : (#[.string ByteArray.empty, .string ByteArray.empty, .string ByteArray.empty, .slice none 0 0, .slice none 0 0] : Array Value).all (·.oneCell') = true := by kernel_rfl
  have H1Z := Lib.hid h1z; clear h1z
  have HNZ : Hid ((w.alloc (.cells #[.string ByteArray.empty, .string ByteArray.empty, .string ByteArray.empty, .slice none 0 0, .slice none 0 0] 104)).heap.size = w.heap.size + 1) := Lib.hid (by simp)
  go_enter Tryz.func78, Tryz.ntmps78
  go_wp2_with (refine wpList_store_last (w.alloc (.cells #[.string ByteArray.empty, .string ByteArray.empty, .string ByteArray.empty, .slice none 0 0, .slice none 0 0] 104)) rfl 104 _ _ rfl 104 #[.string ByteArray.empty, .string ByteArray.empty, .string ByteArray.empty, .slice none 0 0, .slice none 0 0] #[.string ByteArray.empty, .string ByteArray.empty, .string ByteArray.empty, .slice none 0 0, .slice none 0 0] (w.heap.size + 1) HNZ.out rfl rfl HI.out rfl H1Z.out ?_)
  refine (c_text p c B bs _ _ _ C0).mono ?_
  rintro e w1 ⟨K1, j1, bad1, q1, rfl, J1, C1, T1⟩
  obtain ⟨s0, rfl⟩ := J1
  simp only [one, List.headD_cons]
  have A1' := K1.row A0.out hp0
  have D1' := K1.row D0.out hp1
  have G1' := G0.trans K1
  have cc := box_cell D1' 0 rfl
  have ff : w1.frozen? ⟨w.heap.size + 1, 0, none⟩ = false := frozen_of_row w1 _ 0 _ _ D1'
  have C1 := cu_set (g := w.heap.size + 1) (o := 0) (v := .string s0) C1 hg
  have G1 : Keeps (Off2 p c) w (w1.setCell ⟨w.heap.size + 1, 0, none⟩ (.string s0)) := keeps_set G1' (by omega)
  have A1 := Lib.hid (row_set (b := w.heap.size + 1) (o := 0) (v := .string s0) A1' (by omega))
  have D1 : Hid ((w1.setCell ⟨w.heap.size + 1, 0, none⟩ (.string s0)).heap[w.heap.size + 1]? = some (.cells #[.string s0, .string ByteArray.empty, .string ByteArray.empty, .slice none 0 0, .slice none 0 0] 104 (0, 0))) := Lib.hid (setCells_mid [.string s0] [.string ByteArray.empty] [] [.string ByteArray.empty, .string ByteArray.empty, .slice none 0 0, .slice none 0 0] w1 rfl D1')
  clear A1' D1' G1'
  go_wp2_with fail
  clear cc ff
  have T1 := Lib.hid T1
  refine (c_text p c B bs _ _ _ C1).mono ?_
  rintro e w2 ⟨K2, j2, bad2, q2, rfl, J2, C2, T2⟩
  obtain ⟨s1, rfl⟩ := J2
  simp only [one, List.headD_cons]
  have A2' := K2.row A1.out hp0
  have D2' := K2.row D1.out hp1
  have G2' := G1.trans K2
  have cc := box_cell D2' 1 rfl
  have ff : w2.frozen? ⟨w.heap.size + 1, 1, none⟩ = false := frozen_of_row w2 _ 1 _ _ D2'
  have C2 := cu_set (g := w.heap.size + 1) (o := 1) (v := .string s1) C2 hg
  have G2 : Keeps (Off2 p c) w (w2.setCell ⟨w.heap.size + 1, 1, none⟩ (.string s1)) := keeps_set G2' (by omega)
  have A2 := Lib.hid (row_set (b := w.heap.size + 1) (o := 1) (v := .string s1) A2' (by omega))
  have D2 : Hid ((w2.setCell ⟨w.heap.size + 1, 1, none⟩ (.string s1)).heap[w.heap.size + 1]? = some (.cells #[.string s0, .string s1, .string ByteArray.empty, .slice none 0 0, .slice none 0 0] 104 (0, 0))) := Lib.hid (setCells_mid [.string s1] [.string ByteArray.empty] [.string s0] [.string ByteArray.empty, .slice none 0 0, .slice none 0 0] w2 rfl D2')
  clear A2' D2' G2'
  go_wp2_with fail
  clear cc ff
  have T2 := Lib.hid T2
  refine (c_text p c B bs _ _ _ C2).mono ?_
  rintro e w3 ⟨K3, j3, bad3, q3, rfl, J3, C3, T3⟩
  obtain ⟨s2, rfl⟩ := J3
  simp only [one, List.headD_cons]
  have A3' := K3.row A2.out hp0
  have D3' := K3.row D2.out hp1
  have G3' := G2.trans K3
  have cc := box_cell D3' 2 rfl
  have ff : w3.frozen? ⟨w.heap.size + 1, 2, none⟩ = false := frozen_of_row w3 _ 2 _ _ D3'
  have C3 := cu_set (g := w.heap.size + 1) (o := 2) (v := .string s2) C3 hg
  have G3 : Keeps (Off2 p c) w (w3.setCell ⟨w.heap.size + 1, 2, none⟩ (.string s2)) := keeps_set G3' (by omega)
  have A3 := Lib.hid (row_set (b := w.heap.size + 1) (o := 2) (v := .string s2) A3' (by omega))
  have D3 : Hid ((w3.setCell ⟨w.heap.size + 1, 2, none⟩ (.string s2)).heap[w.heap.size + 1]? = some (.cells #[.string s0, .string s1, .string s2, .slice none 0 0, .slice none 0 0] 104 (0, 0))) := Lib.hid (setCells_mid [.string s2] [.string ByteArray.empty] [.string s0, .string s1] [.slice none 0 0, .slice none 0 0] w3 rfl D3')
  clear A3' D3' G3'
  go_wp2_with fail
  clear cc ff
  have T3 := Lib.hid T3
  refine (c_listColumn p c B bs _ _ _ C3).mono ?_
  rintro e w4 ⟨K4, j4, bad4, q4, rfl, J4, C4, T4⟩
  obtain ⟨a3, l3, c3, rfl⟩ := J4
  simp only [one, List.headD_cons]
  have A4' := K4.row A3.out hp0
  have D4' := K4.row D3.out hp1
  have G4' := G3.trans K4
  have cc := box_cell D4' 3 rfl
  have ff : w4.frozen? ⟨w.heap.size + 1, 3, none⟩ = false := frozen_of_row w4 _ 3 _ _ D4'
  have C4 := cu_set (g := w.heap.size + 1) (o := 3) (v := .slice a3 l3 c3) C4 hg
  have G4 : Keeps (Off2 p c) w (w4.setCell ⟨w.heap.size + 1, 3, none⟩ (.slice a3 l3 c3)) := keeps_set G4' (by omega)
  have A4 := Lib.hid (row_set (b := w.heap.size + 1) (o := 3) (v := .slice a3 l3 c3) A4' (by omega))
  have D4 : Hid ((w4.setCell ⟨w.heap.size + 1, 3, none⟩ (.slice a3 l3 c3)).heap[w.heap.size + 1]? = some (.cells #[.string s0, .string s1, .string s2, .slice a3 l3 c3, .slice none 0 0] 104 (0, 0))) := Lib.hid (setCells_mid [.slice a3 l3 c3] [.slice none 0 0] [.string s0, .string s1, .string s2] [.slice none 0 0] w4 rfl D4')
  clear A4' D4' G4'
  go_wp2_with fail
  clear cc ff
  have T4 := Lib.hid T4
  refine (c_many p c B bs _ _ _ C4).mono ?_
  rintro e u5 ⟨K5, nn5, jm5, bm5, rfl, hn5, Cm5, MS5⟩
  have NS5 : CountAt bs _ _ nn5 jm5 bm5 := MS5
  have S5 := Lib.hid NS5; clear MS5 NS5
  have Am5 := Lib.hid (K5.row A4.out hp0)
  have Dm5 := Lib.hid (K5.row D4.out hp1)
  have Gm5 := G4.trans K5
  go_wp2_with fail
  go_loopw [5] (fun ic wr => ∃ (k j : Nat) (bad' : Bool) (o' : Value) (xs : List Value), k ≤ nn5 ∧ ic = .int .i64 k ∧ wr.ownsRow (w.heap.size + 2) 67 8 o' k xs ∧ Cu wr p c B bs j bad' ∧ Keeps (Off2 p c) w wr ∧ Hid (wr.heap[w.heap.size]? = some (.cells #[.string ByteArray.empty, .string ByteArray.empty, .string ByteArray.empty, .slice none 0 0, .slice none 0 0] 104 (0, 0))) ∧ Hid (wr.heap[w.heap.size + 1]? = some (.cells #[.string s0, .string s1, .string s2, .slice a3 l3 c3, o'] 104 (0, 0))) ∧
    ((bm5 = false ∧ bad' = false ∧ ∃ ts, parseN (parse shRule) k (bs.drop jm5) = some (ts, bs.drop j)) ∨ (bad' = true ∧ (bm5 = true ∨ parseN (parse shRule) nn5 (bs.drop jm5) = none)))) (fun ic _ => nn5 - (intOf ic).toNat)
  case atStart => exact ⟨0, jm5, bm5, .slice none 0 0, [], Nat.zero_le _, rfl, World.ownsRow_nil _ _ _ _, Cm5, Gm5, Am5, Dm5, by cases bm5; exact .inl ⟨rfl, rfl, [], rfl⟩; exact .inr ⟨rfl, .inl rfl⟩⟩
  case round =>
    obtain ⟨l4, j5, bad', o', xs, hk5, rfl, hown, hC, hK, hA, hD, hS⟩ := hrel
    have hS := Lib.hid hS
    have hwr := hK.size
    obtain ⟨_, d1, _⟩ := hC.open_
    obtain ⟨a4, c4, rfl⟩ := own_form hown
    by_cases hgo : l4 < nn5 ∧ bad' = false
    · obtain ⟨hlt, rfl⟩ := hgo
      have hob := fun g hg => (World.ownsRow.lt hown g hg).1
      have HOB := Lib.hid hob; clear hob
      have hsn := fun (jj : Nat) (bb : Bool) (h : CStep bs shRule j5 false jj bb) => list_more hS.out h hlt
      have HSN := Lib.hid hsn; clear hsn
      go_wp2_with fail
      refine (c_rule p c B bs j5 false wr hC).mono ?_
      rintro e x1 ⟨KK, jj, bb, qq, rfl, JJ, CC, TT⟩
      obtain ⟨se0, ne1, ae2, le2, ce2, ne3, ne4, se5, se6, se7, rfl⟩ := typed_Rule JJ
      simp only [agg]
      have TT := Lib.hid TT
      have GG := hK.trans KK
      have o1 := own_off2 hown KK HLO2.out
      have OWN := Lib.hid (own_alloc (own_alloc o1 (.cells #[.string se0, .int .i64 ne1, .slice ae2 le2 ce2, .int .i64 ne3, .int .i64 ne4, .string se5, .string se6, .string se7] 67)) (.cells #[.string se0, .int .i64 ne1, .slice ae2 le2 ce2, .int .i64 ne3, .int .i64 ne4, .string se5, .string se6, .string se7] 67))
      have rngb := Lib.hid (box_range (cs := [.string se0, .int .i64 ne1, .slice ae2 le2 ce2, .int .i64 ne3, .int .i64 ne4, .string se5, .string se6, .string se7]) (heap_alloc_new x1 (.cells #[.string se0, .int .i64 ne1, .slice ae2 le2 ce2, .int .i64 ne3, .int .i64 ne4, .string se5, .string se6, .string se7] 67)))
      have h1e := Lib.hid (all_oneCell_toArray (mkT_Rule (s0 := se0) (n1 := ne1) (a2 := ae2) (l2 := le2) (c2 := ce2) (n3 := ne3) (n4 := ne4) (s5 := se5) (s6 := se6) (s7 := se7)).one)
      have D1 := KK.row hD.out hp1
      have A1 := KK.row hA.out hp0
      have cD := box_cell (row_alloc' (ob := (.cells #[.string se0, .int .i64 ne1, .slice ae2 le2 ce2, .int .i64 ne3, .int .i64 ne4, .string se5, .string se6, .string se7] 67)) D1) 4 rfl
      have CB := CC.alloc (.cells #[.string se0, .int .i64 ne1, .slice ae2 le2 ce2, .int .i64 ne3, .int .i64 ne4, .string se5, .string se6, .string se7] 67)
      have GB := GG.alloc (.cells #[.string se0, .int .i64 ne1, .slice ae2 le2 ce2, .int .i64 ne3, .int .i64 ne4, .string se5, .string se6, .string se7] 67)
      have DB := row_alloc' (ob := (.cells #[.string se0, .int .i64 ne1, .slice ae2 le2 ce2, .int .i64 ne3, .int .i64 ne4, .string se5, .string se6, .string se7] 67)) (row_alloc' (ob := (.cells #[.string se0, .int .i64 ne1, .slice ae2 le2 ce2, .int .i64 ne3, .int .i64 ne4, .string se5, .string se6, .string se7] 67)) D1)
      have AB := row_alloc' (ob := (.cells #[.string se0, .int .i64 ne1, .slice ae2 le2 ce2, .int .i64 ne3, .int .i64 ne4, .string se5, .string se6, .string se7] 67)) (row_alloc' (ob := (.cells #[.string se0, .int .i64 ne1, .slice ae2 le2 ce2, .int .i64 ne3, .int .i64 ne4, .string se5, .string se6, .string se7] 67)) A1)
      have HW1 : Hid ((x1.alloc (.cells #[.string se0, .int .i64 ne1, .slice ae2 le2 ce2, .int .i64 ne3, .int .i64 ne4, .string se5, .string se6, .string se7] 67)).heap.size = x1.heap.size + 1) := Lib.hid (by simp)
      have hsz1 := KK.size
      go_wp2_with (first | (refine wpList_store_last x1 rfl 67 _ _ rfl 67 #[.string ByteArray.empty, .int .i64 0, .slice none 0 0, .int .i64 0, .int .i64 0, .string ByteArray.empty, .string ByteArray.empty, .string ByteArray.empty] #[.string se0, .int .i64 ne1, .slice ae2 le2 ce2, .int .i64 ne3, .int .i64 ne4, .string se5, .string se6, .string se7] x1.heap.size rfl rfl rfl HSRule.out rfl h1e.out ?_) | (refine wpList_load_mid rfl 67 _ rfl x1.heap.size 0 rfl _ _ rngb.out Tryz.underlying67 rfl HSRule.out ?_) | (at_builtin; refine wpList_append_own_at _ rfl _ _ 102 rfl (w.heap.size + 2) 67 iRule _ 8 112 Tryz.underlying102 hiRule hxRule hyRule hzRule rfl (by decide) _ _ _ rfl OWN.out ⟨_, 0, none⟩ 1 1 [.string se0, .int .i64 ne1, .slice ae2 le2 ce2, .int .i64 ne3, .int .i64 ne4, .string se5, .string se6, .string se7] rfl rfl ?c51 ?c52 ?c53 ?c54 ?c55 ?_))
      case c51 => exact fun j u hu => cell_fresh_at _ _ _ _ (by simp) j u hu
      case c52 => exact (mkT_Rule).one
      case c53 => unfold maxLen; omega
      case c54 => omega
      case c55 => have := lt_of_block DB; simp at this ⊢; omega
      intro o3 w3 hown3 hgrow _ hat3
      obtain ⟨ao3, co3, rfl⟩ := own_form hown3
      have hC3 : Cu w3 p c B bs _ _ := (CB.alloc (.cells #[.string se0, .int .i64 ne1, .slice ae2 le2 ce2, .int .i64 ne3, .int .i64 ne4, .string se5, .string se6, .string se7] 67)).keep fun g hg h => hgrow.block g hg fun e => by have := HLO2.out g (HOB.out g e.symm); omega
      have hK3 : Keeps (Off2 p c) w w3 := keeps_grown (GB.alloc (.cells #[.string se0, .int .i64 ne1, .slice ae2 le2 ce2, .int .i64 ne3, .int .i64 ne4, .string se5, .string se6, .string se7] 67)) hgrow (fun j hj => by have := HOB.out j hj; omega)
      have D3 := row_grown DB hgrow HOB.out (show w.heap.size + 1 < w.heap.size + 2 by omega)
      have A3 := row_grown AB hgrow HOB.out (show w.heap.size < w.heap.size + 2 by omega)
      have cD3 := box_cell D3 4 rfl
      have fD3 : w3.frozen? ⟨w.heap.size + 1, 4, none⟩ = false := frozen_of_row w3 _ 4 _ _ D3
      have C4 := cu_set (g := w.heap.size + 1) (o := 4) (v := .slice ao3 (l4 + 1) co3) hC3 hg
      have K4 : Keeps (Off2 p c) w (w3.setCell ⟨w.heap.size + 1, 4, none⟩ (.slice ao3 (l4 + 1) co3)) := keeps_set hK3 (by omega)
      have A4 := Lib.hid (row_set (b := w.heap.size + 1) (o := 4) (v := .slice ao3 (l4 + 1) co3) A3 (by omega))
      have D4 : Hid ((w3.setCell ⟨w.heap.size + 1, 4, none⟩ (.slice ao3 (l4 + 1) co3)).heap[w.heap.size + 1]? = some (.cells #[.string s0, .string s1, .string s2, .slice a3 l3 c3, .slice ao3 (l4 + 1) co3] 104 (0, 0))) := Lib.hid (heap_setCell_same w3 (w.heap.size + 1) 4 _ _ (.slice ao3 (l4 + 1) co3) D3)
      have own4 := Lib.hid (own_set (b := w.heap.size + 1) (o := 4) (v := .slice ao3 (l4 + 1) co3) hown3 (fun e => by have := (World.ownsRow.lt hown3 _ e).1; omega))
      clear hown3 hat3 cD D3 A3
      go_wp2_with fail
      go_roundw
      case rel => exact ⟨l4 + 1, _, _, _, _, by omega, by go_num, own4.out, C4, K4, A4, D4, HSN.out _ _ TT.out⟩
      case measure => simp [intOf]; omega
    · have hex : l4 < nn5 ∧ bad' = true ∨ ¬ l4 < nn5 := by
        by_cases h : l4 < nn5
        · refine .inl ⟨h, ?_⟩
          cases bad' with
          | true => rfl
          | false => exact absurd ⟨h, rfl⟩ hgo
        · exact .inr h
      have T5 := list_cut S5.out hS.out (by rcases hex with ⟨_, h⟩ | h; exact .inr h; exact .inl (by omega))
      have T5 := Lib.hid T5
      have C5 := hC
      have G5 := hK
      have A5 := hA
      have D5 := hD
      clear hgo hS hown
      rcases hex with ⟨hlt, rfl⟩ | hlt
      all_goals
        have HA := Lib.hid (setRow_heap _ w.heap.size _ #[.string s0, .string s1, .string s2, .slice a3 l3 c3, .slice a4 l4 c4] _ _ A5.out)
        have rng := Lib.hid (box_range (cs := [.string s0, .string s1, .string s2, .slice a3 l3 c3, .slice a4 l4 c4]) D5.out)
        have h1 := Lib.hid (all_oneCell_toArray (mkT_Table (s0 := s0) (s1 := s1) (s2 := s2) (a3 := a3) (l3 := l3) (c3 := c3) (a4 := a4) (l4 := l4) (c4 := c4)).one)
        go_wp2_with (first | (refine wpList_load_mid rfl 104 _ rfl (w.heap.size + 1) 0 rfl _ _ rng.out Tryz.underlying104 rfl HI.out ?_) | (refine wpList_store_row rfl 104 _ _ rfl w.heap.size 104 _ #[.string s0, .string s1, .string s2, .slice a3 l3 c3, .slice a4 l4 c4] rfl rfl A5.out HI.out rfl h1.out ?_))
        refine bodyPost_ret (results_cell_row rfl _ _ w.heap.size _ _ (0, 0) _ rfl HA.out Tryz.underlying104 rfl HI.out) rfl ?_
        exact ⟨G5.setRow (Nat.le_refl _) _, _, _, _, rfl, mkT_Table, C5.setOwn (own_lt h (Nat.le_refl _)) (fun k hk => setRow_other _ _ _ _ hk), (T1.out.two (T2.out.two (T3.out.two (T4.out.two T5.out))))⟩

set_option maxRecDepth 100000 in
set_option maxHeartbeats 8000000 in
theorem c_objects (p c : Nat) (B : Nat) (bs : List UInt8) (i : Nat) (bad : Bool) (w : World) (h : Cu w p c B bs i bad) :
    Calls Tryz.prog 43 #[.pointer (some ⟨p, 0, none⟩)] w (CPost w p c B bs shObjects i bad agg) := by
  obtain ⟨iSchema, hiSchema, hxSchema, hySchema, hzSchema⟩ := info_parts info_Schema
  have hsSchema : (Tryz.prog.info? 98).map (·.size) = some 2 := by kernel_rfl
  have HSSchema := Lib.hid hsSchema; clear hsSchema
  obtain ⟨iTable, hiTable, hxTable, hyTable, hzTable⟩ := info_parts info_Table
  have hsTable : (Tryz.prog.info? 104).map (·.size) = some 5 := by kernel_rfl
  have HSTable := Lib.hid hsTable; clear hsTable
  have hlo : ∀ g, w.heap.size ≤ g → B ≤ g ∧ g ≠ p ∧ g ≠ c := fun g hg => own_lt h hg
  have HLO := Lib.hid hlo; clear hlo
  have hlo2 : ∀ g, w.heap.size + 2 ≤ g → B ≤ g ∧ g ≠ p ∧ g ≠ c := fun g hg => HLO.out g (by omega)
  have HLO2 := Lib.hid hlo2; clear hlo2
  have hg := own_lt h (Nat.le_succ w.heap.size)
  have hp0 : Off2 p c w.heap.size := by have := own_lt h (Nat.le_refl w.heap.size); exact ⟨this.2.1, this.2.2⟩
  have hp1 : Off2 p c (w.heap.size + 1) := ⟨hg.2.1, hg.2.2⟩
  have C0 := (h.alloc (.cells #[.slice none 0 0, .slice none 0 0] 27)).alloc (.cells #[.slice none 0 0, .slice none 0 0] 27)
  have G0 : Keeps (Off2 p c) w ((w.alloc (.cells #[.slice none 0 0, .slice none 0 0] 27)).alloc (.cells #[.slice none 0 0, .slice none 0 0] 27)) := (Keeps.refl.alloc _).alloc _
  have A0 := Lib.hid (heap_alloc2_old w (.cells #[.slice none 0 0, .slice none 0 0] 27) (.cells #[.slice none 0 0, .slice none 0 0] 27))
  have D0 := Lib.hid (heap_alloc2_new w (.cells #[.slice none 0 0, .slice none 0 0] 27) (.cells #[.slice none 0 0, .slice none 0 0] 27))
  have hi : (Tryz.prog.info? 27).map (·.size) = some 2 := by kernel_rfl
  have HI := Lib.hid hi; clear hi
  have h1z : (#[.slice none 0 0, .slice none 0 0] : Array Value).all (·.oneCell') = true := by kernel_rfl
  have H1Z := Lib.hid h1z; clear h1z
  have HNZ : Hid ((w.alloc (.cells #[.slice none 0 0, .slice none 0 0] 27)).heap.size = w.heap.size + 1) := Lib.hid (by simp)
  go_enter Tryz.func43, Tryz.ntmps43
  go_wp2_with (refine wpList_store_last (w.alloc (.cells #[.slice none 0 0, .slice none 0 0] 27)) rfl 27 _ _ rfl 27 #[.slice none 0 0, .slice none 0 0] #[.slice none 0 0, .slice none 0 0] (w.heap.size + 1) HNZ.out rfl rfl HI.out rfl H1Z.out ?_)
  refine (c_many p c B bs _ _ _ C0).mono ?_
  rintro e u1 ⟨K1, nn1, jm1, bm1, rfl, hn1, Cm1, MS1⟩
  have NS1 : CountAt bs _ _ nn1 jm1 bm1 := MS1
  have S1 := Lib.hid NS1; clear MS1 NS1
  have Am1 := Lib.hid (K1.row A0.out hp0)
  have Dm1 := Lib.hid (K1.row D0.out hp1)
  have Gm1 := G0.trans K1
  go_wp2_with fail
  go_loopw [5] (fun ic wr => ∃ (k j : Nat) (bad' : Bool) (o' : Value) (xs : List Value), k ≤ nn1 ∧ ic = .int .i64 k ∧ wr.ownsRow (w.heap.size + 2) 98 2 o' k xs ∧ Cu wr p c B bs j bad' ∧ Keeps (Off2 p c) w wr ∧ Hid (wr.heap[w.heap.size]? = some (.cells #[.slice none 0 0, .slice none 0 0] 27 (0, 0))) ∧ Hid (wr.heap[w.heap.size + 1]? = some (.cells #[o', .slice none 0 0] 27 (0, 0))) ∧
    ((bm1 = false ∧ bad' = false ∧ ∃ ts, parseN (parse shSchema) k (bs.drop jm1) = some (ts, bs.drop j)) ∨ (bad' = true ∧ (bm1 = true ∨ parseN (parse shSchema) nn1 (bs.drop jm1) = none)))) (fun ic _ => nn1 - (intOf ic).toNat)
  case atStart => exact ⟨0, jm1, bm1, .slice none 0 0, [], Nat.zero_le _, rfl, World.ownsRow_nil _ _ _ _, Cm1, Gm1, Am1, Dm1, by cases bm1; exact .inl ⟨rfl, rfl, [], rfl⟩; exact .inr ⟨rfl, .inl rfl⟩⟩
  case round =>
    obtain ⟨l0, j1, bad', o', xs, hk1, rfl, hown, hC, hK, hA, hD, hS⟩ := hrel
    have hS := Lib.hid hS
    have hwr := hK.size
    obtain ⟨_, d1, _⟩ := hC.open_
    obtain ⟨a0, c0, rfl⟩ := own_form hown
    by_cases hgo : l0 < nn1 ∧ bad' = false
    · obtain ⟨hlt, rfl⟩ := hgo
      have hob := fun g hg => (World.ownsRow.lt hown g hg).1
      have HOB := Lib.hid hob; clear hob
      have hsn := fun (jj : Nat) (bb : Bool) (h : CStep bs shSchema j1 false jj bb) => list_more hS.out h hlt
      have HSN := Lib.hid hsn; clear hsn
      have hge := HLO.out wr.heap.size (Nat.le_trans hwr (Nat.le_refl _))
      have C0' := hC.alloc (.cells #[.string ByteArray.empty, .string ByteArray.empty] 98)
      have E0 : Keeps (Off2 p c) w (wr.alloc (.cells #[.string ByteArray.empty, .string ByteArray.empty] 98)) := hK.alloc _
      have B0 := Lib.hid (heap_alloc_new wr (.cells #[.string ByteArray.empty, .string ByteArray.empty] 98))
      have O0 := Lib.hid (own_alloc hown (.cells #[.string ByteArray.empty, .string ByteArray.empty] 98))
      have DD0 := Lib.hid (row_alloc' (ob := (.cells #[.string ByteArray.empty, .string ByteArray.empty] 98)) hD.out)
      have AA0 := Lib.hid (row_alloc' (ob := (.cells #[.string ByteArray.empty, .string ByteArray.empty] 98)) hA.out)
      have hlD := lt_of_block hD.out
      have X0 := hC.ltp
      go_wp2_with fail
      refine (c_text p c B bs _ _ _ C0').mono ?_
      rintro e x1 ⟨KE1, jE1, bE1, qE1, rfl, JE1, CE1, TE1⟩
      obtain ⟨se0, rfl⟩ := JE1
      simp only [one, List.headD_cons]
      have B1' := KE1.row B0.out ⟨hge.2.1, hge.2.2⟩
      have E1' := E0.trans KE1
      have O1' := own_off2 O0.out KE1 HLO2.out
      have DD1' := KE1.row DD0.out hp1
      have AA1' := KE1.row AA0.out hp0
      have cc := box_cell B1' 0 rfl
      have ff : x1.frozen? ⟨wr.heap.size, 0, none⟩ = false := frozen_of_row x1 _ 0 _ _ B1'
      have CE1 := cu_set (g := wr.heap.size) (o := 0) (v := .string se0) CE1 hge
      have E1 : Keeps (Off2 p c) w (x1.setCell ⟨wr.heap.size, 0, none⟩ (.string se0)) := keeps_set E1' hwr
      have B1 : Hid ((x1.setCell ⟨wr.heap.size, 0, none⟩ (.string se0)).heap[wr.heap.size]? = some (.cells #[.string se0, .string ByteArray.empty] 98 (0, 0))) := Lib.hid (heap_setCell_same x1 wr.heap.size 0 _ _ (.string se0) B1')
      have O1 := Lib.hid (own_set (b := wr.heap.size) (o := 0) (v := .string se0) O1' (fun e => by have := (World.ownsRow.lt hown _ e).2; omega))
      have DD1 := Lib.hid (row_set (b := wr.heap.size) (o := 0) (v := .string se0) DD1' (by omega))
      have AA1 := Lib.hid (row_set (b := wr.heap.size) (o := 0) (v := .string se0) AA1' (by omega))
      clear B1' E1' O1' DD1' AA1'
      have TE1 := Lib.hid TE1
      go_wp2_with fail
      clear cc ff
      refine (c_text p c B bs _ _ _ CE1).mono ?_
      rintro e x2 ⟨KE2, jE2, bE2, qE2, rfl, JE2, CE2, TE2⟩
      obtain ⟨se1, rfl⟩ := JE2
      simp only [one, List.headD_cons]
      have B2' := KE2.row B1.out ⟨hge.2.1, hge.2.2⟩
      have E2' := E1.trans KE2
      have O2' := own_off2 O1.out KE2 HLO2.out
      have DD2' := KE2.row DD1.out hp1
      have AA2' := KE2.row AA1.out hp0
      have cc := box_cell B2' 1 rfl
      have ff : x2.frozen? ⟨wr.heap.size, 1, none⟩ = false := frozen_of_row x2 _ 1 _ _ B2'
      have CE2 := cu_set (g := wr.heap.size) (o := 1) (v := .string se1) CE2 hge
      have E2 : Keeps (Off2 p c) w (x2.setCell ⟨wr.heap.size, 1, none⟩ (.string se1)) := keeps_set E2' hwr
      have B2 : Hid ((x2.setCell ⟨wr.heap.size, 1, none⟩ (.string se1)).heap[wr.heap.size]? = some (.cells #[.string se0, .string se1] 98 (0, 0))) := Lib.hid (heap_setCell_same x2 wr.heap.size 1 _ _ (.string se1) B2')
      have O2 := Lib.hid (own_set (b := wr.heap.size) (o := 1) (v := .string se1) O2' (fun e => by have := (World.ownsRow.lt hown _ e).2; omega))
      have DD2 := Lib.hid (row_set (b := wr.heap.size) (o := 1) (v := .string se1) DD2' (by omega))
      have AA2 := Lib.hid (row_set (b := wr.heap.size) (o := 1) (v := .string se1) AA2' (by omega))
      clear B2' E2' O2' DD2' AA2'
      have TE2 := Lib.hid TE2
      obtain ⟨y1, hy1⟩ : ∃ y, x2.setCell ⟨wr.heap.size, 1, none⟩ (.string se1) = y := ⟨_, rfl⟩
      have CE := CE2
      have EE := E2
      have BB := B2
      have OO := O2
      have DD := DD2
      have AA := AA2
      rw [hy1] at CE EE BB OO DD AA
      have HY1 := Lib.hid hy1; clear hy1
      have rngb := Lib.hid (box_range (cs := [.string se0, .string se1]) BB.out)
      have OWN := Lib.hid (own_alloc OO.out (.cells #[.string se0, .string se1] 98))
      have cD := box_cell DD.out 0 rfl
      have CB := CE
      have GB := EE
      have DB := row_alloc' (ob := (.cells #[.string se0, .string se1] 98)) DD.out
      have AB := row_alloc' (ob := (.cells #[.string se0, .string se1] 98)) AA.out
      have hsz1 := EE.size
      rw [← HY1.out] at rngb OWN cD
      go_wp2_with (first | (refine wpList_load_mid rfl 98 _ rfl wr.heap.size 0 rfl _ _ rngb.out Tryz.underlying98 rfl HSSchema.out ?_) | (at_builtin; refine wpList_append_own_at _ rfl _ _ 24 rfl (w.heap.size + 2) 98 iSchema _ 2 32 Tryz.underlying24 hiSchema hxSchema hySchema hzSchema rfl (by decide) _ _ _ rfl OWN.out ⟨_, 0, none⟩ 1 1 [.string se0, .string se1] rfl rfl ?c11 ?c12 ?c13 ?c14 ?c15 ?_))
      case c11 => exact fun j u hu => cell_fresh_at _ _ _ _ (by simp) j u hu
      case c12 => exact (mkT_Schema).one
      case c13 => unfold maxLen; omega
      case c14 => omega
      case c15 => rw [HY1.out]; have := lt_of_block DB; simp at this ⊢; omega
      intro o3 w3 hown3 hgrow _ hat3
      obtain ⟨ao3, co3, rfl⟩ := own_form hown3
      rw [HY1.out] at hgrow
      have hC3 : Cu w3 p c B bs _ _ := (CB.alloc (.cells #[.string se0, .string se1] 98)).keep fun g hg h => hgrow.block g hg fun e => by have := HLO2.out g (HOB.out g e.symm); omega
      have hK3 : Keeps (Off2 p c) w w3 := keeps_grown (GB.alloc (.cells #[.string se0, .string se1] 98)) hgrow (fun j hj => by have := HOB.out j hj; omega)
      have D3 := row_grown DB hgrow HOB.out (show w.heap.size + 1 < w.heap.size + 2 by omega)
      have A3 := row_grown AB hgrow HOB.out (show w.heap.size < w.heap.size + 2 by omega)
      have cD3 := box_cell D3 0 rfl
      have fD3 : w3.frozen? ⟨w.heap.size + 1, 0, none⟩ = false := frozen_of_row w3 _ 0 _ _ D3
      have C4 := cu_set (g := w.heap.size + 1) (o := 0) (v := .slice ao3 (l0 + 1) co3) hC3 hg
      have K4 : Keeps (Off2 p c) w (w3.setCell ⟨w.heap.size + 1, 0, none⟩ (.slice ao3 (l0 + 1) co3)) := keeps_set hK3 (by omega)
      have A4 := Lib.hid (row_set (b := w.heap.size + 1) (o := 0) (v := .slice ao3 (l0 + 1) co3) A3 (by omega))
      have D4 : Hid ((w3.setCell ⟨w.heap.size + 1, 0, none⟩ (.slice ao3 (l0 + 1) co3)).heap[w.heap.size + 1]? = some (.cells #[.slice ao3 (l0 + 1) co3, .slice none 0 0] 27 (0, 0))) := Lib.hid (heap_setCell_same w3 (w.heap.size + 1) 0 _ _ (.slice ao3 (l0 + 1) co3) D3)
      have own4 := Lib.hid (own_set (b := w.heap.size + 1) (o := 0) (v := .slice ao3 (l0 + 1) co3) hown3 (fun e => by have := (World.ownsRow.lt hown3 _ e).1; omega))
      clear hown3 hat3 cD D3 A3
      go_wp2_with fail
      go_roundw
      case rel => exact ⟨l0 + 1, _, _, _, _, by omega, by go_num, own4.out, C4, K4, A4, D4, HSN.out _ _ (TE1.out.two TE2.out)⟩
      case measure => simp [intOf]; omega
    · have hex : l0 < nn1 ∧ bad' = true ∨ ¬ l0 < nn1 := by
        by_cases h : l0 < nn1
        · refine .inl ⟨h, ?_⟩
          cases bad' with
          | true => rfl
          | false => exact absurd ⟨h, rfl⟩ hgo
        · exact .inr h
      have T1 := list_cut S1.out hS.out (by rcases hex with ⟨_, h⟩ | h; exact .inr h; exact .inl (by omega))
      have T1 := Lib.hid T1
      have C1 := hC
      have G1 := hK
      have A1 := hA
      have D1 := hD
      clear hgo hS hown
      rcases hex with ⟨hlt, rfl⟩ | hlt
      all_goals
        go_wp2_with fail
        refine (c_many p c B bs _ _ _ C1).mono ?_
        rintro e u2 ⟨K2, nn2, jm2, bm2, rfl, hn2, Cm2, MS2⟩
        have NS2 : CountAt bs _ _ nn2 jm2 bm2 := MS2
        have S2 := Lib.hid NS2; clear MS2 NS2
        have Am2 := Lib.hid (K2.row A1.out hp0)
        have Dm2 := Lib.hid (K2.row D1.out hp1)
        have Gm2 := G1.trans K2
        go_wp2_with fail
        go_loopw [7] (fun ic wr => ∃ (k j : Nat) (bad' : Bool) (o' : Value) (xs : List Value), k ≤ nn2 ∧ ic = .int .i64 k ∧ wr.ownsRow (w.heap.size + 2) 104 5 o' k xs ∧ Cu wr p c B bs j bad' ∧ Keeps (Off2 p c) w wr ∧ Hid (wr.heap[w.heap.size]? = some (.cells #[.slice none 0 0, .slice none 0 0] 27 (0, 0))) ∧ Hid (wr.heap[w.heap.size + 1]? = some (.cells #[.slice a0 l0 c0, o'] 27 (0, 0))) ∧
          ((bm2 = false ∧ bad' = false ∧ ∃ ts, parseN (parse shTable) k (bs.drop jm2) = some (ts, bs.drop j)) ∨ (bad' = true ∧ (bm2 = true ∨ parseN (parse shTable) nn2 (bs.drop jm2) = none)))) (fun ic _ => nn2 - (intOf ic).toNat)
        case atStart => exact ⟨0, jm2, bm2, .slice none 0 0, [], Nat.zero_le _, rfl, World.ownsRow_nil _ _ _ _, Cm2, Gm2, Am2, Dm2, by cases bm2; exact .inl ⟨rfl, rfl, [], rfl⟩; exact .inr ⟨rfl, .inl rfl⟩⟩
        case round =>
          obtain ⟨l1, j2, bad', o', xs, hk2, rfl, hown, hC, hK, hA, hD, hS⟩ := hrel
          have hS := Lib.hid hS
          have hwr := hK.size
          obtain ⟨_, d1, _⟩ := hC.open_
          obtain ⟨a1, c1, rfl⟩ := own_form hown
          by_cases hgo : l1 < nn2 ∧ bad' = false
          · obtain ⟨hlt, rfl⟩ := hgo
            have hob := fun g hg => (World.ownsRow.lt hown g hg).1
            have HOB := Lib.hid hob; clear hob
            have hsn := fun (jj : Nat) (bb : Bool) (h : CStep bs shTable j2 false jj bb) => list_more hS.out h hlt
            have HSN := Lib.hid hsn; clear hsn
            go_wp2_with fail
            refine (c_table p c B bs j2 false wr hC).mono ?_
            rintro e x1 ⟨KK, jj, bb, qq, rfl, JJ, CC, TT⟩
            obtain ⟨se0, se1, se2, ae3, le3, ce3, ae4, le4, ce4, rfl⟩ := typed_Table JJ
            simp only [agg]
            have TT := Lib.hid TT
            have GG := hK.trans KK
            have o1 := own_off2 hown KK HLO2.out
            have OWN := Lib.hid (own_alloc (own_alloc o1 (.cells #[.string se0, .string se1, .string se2, .slice ae3 le3 ce3, .slice ae4 le4 ce4] 104)) (.cells #[.string se0, .string se1, .string se2, .slice ae3 le3 ce3, .slice ae4 le4 ce4] 104))
            have rngb := Lib.hid (box_range (cs := [.string se0, .string se1, .string se2, .slice ae3 le3 ce3, .slice ae4 le4 ce4]) (heap_alloc_new x1 (.cells #[.string se0, .string se1, .string se2, .slice ae3 le3 ce3, .slice ae4 le4 ce4] 104)))
            have h1e := Lib.hid (all_oneCell_toArray (mkT_Table (s0 := se0) (s1 := se1) (s2 := se2) (a3 := ae3) (l3 := le3) (c3 := ce3) (a4 := ae4) (l4 := le4) (c4 := ce4)).one)
            have D1 := KK.row hD.out hp1
            have A1 := KK.row hA.out hp0
            have cD := box_cell (row_alloc' (ob := (.cells #[.string se0, .string se1, .string se2, .slice ae3 le3 ce3, .slice ae4 le4 ce4] 104)) D1) 1 rfl
            have CB := CC.alloc (.cells #[.string se0, .string se1, .string se2, .slice ae3 le3 ce3, .slice ae4 le4 ce4] 104)
            have GB := GG.alloc (.cells #[.string se0, .string se1, .string se2, .slice ae3 le3 ce3, .slice ae4 le4 ce4] 104)
            have DB := row_alloc' (ob := (.cells #[.string se0, .string se1, .string se2, .slice ae3 le3 ce3, .slice ae4 le4 ce4] 104)) (row_alloc' (ob := (.cells #[.string se0, .string se1, .string se2, .slice ae3 le3 ce3, .slice ae4 le4 ce4] 104)) D1)
            have AB := row_alloc' (ob := (.cells #[.string se0, .string se1, .string se2, .slice ae3 le3 ce3, .slice ae4 le4 ce4] 104)) (row_alloc' (ob := (.cells #[.string se0, .string se1, .string se2, .slice ae3 le3 ce3, .slice ae4 le4 ce4] 104)) A1)
            have HW1 : Hid ((x1.alloc (.cells #[.string se0, .string se1, .string se2, .slice ae3 le3 ce3, .slice ae4 le4 ce4] 104)).heap.size = x1.heap.size + 1) := Lib.hid (by simp)
            have hsz1 := KK.size
            go_wp2_with (first | (refine wpList_store_last x1 rfl 104 _ _ rfl 104 #[.string ByteArray.empty, .string ByteArray.empty, .string ByteArray.empty, .slice none 0 0, .slice none 0 0] #[.string se0, .string se1, .string se2, .slice ae3 le3 ce3, .slice ae4 le4 ce4] x1.heap.size rfl rfl rfl HSTable.out rfl h1e.out ?_) | (refine wpList_load_mid rfl 104 _ rfl x1.heap.size 0 rfl _ _ rngb.out Tryz.underlying104 rfl HSTable.out ?_) | (at_builtin; refine wpList_append_own_at _ rfl _ _ 25 rfl (w.heap.size + 2) 104 iTable _ 5 96 Tryz.underlying25 hiTable hxTable hyTable hzTable rfl (by decide) _ _ _ rfl OWN.out ⟨_, 0, none⟩ 1 1 [.string se0, .string se1, .string se2, .slice ae3 le3 ce3, .slice ae4 le4 ce4] rfl rfl ?c21 ?c22 ?c23 ?c24 ?c25 ?_))
            case c21 => exact fun j u hu => cell_fresh_at _ _ _ _ (by simp) j u hu
            case c22 => exact (mkT_Table).one
            case c23 => unfold maxLen; omega
            case c24 => omega
            case c25 => have := lt_of_block DB; simp at this ⊢; omega
            intro o3 w3 hown3 hgrow _ hat3
            obtain ⟨ao3, co3, rfl⟩ := own_form hown3
            have hC3 : Cu w3 p c B bs _ _ := (CB.alloc (.cells #[.string se0, .string se1, .string se2, .slice ae3 le3 ce3, .slice ae4 le4 ce4] 104)).keep fun g hg h => hgrow.block g hg fun e => by have := HLO2.out g (HOB.out g e.symm); omega
            have hK3 : Keeps (Off2 p c) w w3 := keeps_grown (GB.alloc (.cells #[.string se0, .string se1, .string se2, .slice ae3 le3 ce3, .slice ae4 le4 ce4] 104)) hgrow (fun j hj => by have := HOB.out j hj; omega)
            have D3 := row_grown DB hgrow HOB.out (show w.heap.size + 1 < w.heap.size + 2 by omega)
            have A3 := row_grown AB hgrow HOB.out (show w.heap.size < w.heap.size + 2 by omega)
            have cD3 := box_cell D3 1 rfl
            have fD3 : w3.frozen? ⟨w.heap.size + 1, 1, none⟩ = false := frozen_of_row w3 _ 1 _ _ D3
            have C4 := cu_set (g := w.heap.size + 1) (o := 1) (v := .slice ao3 (l1 + 1) co3) hC3 hg
            have K4 : Keeps (Off2 p c) w (w3.setCell ⟨w.heap.size + 1, 1, none⟩ (.slice ao3 (l1 + 1) co3)) := keeps_set hK3 (by omega)
            have A4 := Lib.hid (row_set (b := w.heap.size + 1) (o := 1) (v := .slice ao3 (l1 + 1) co3) A3 (by omega))
            have D4 : Hid ((w3.setCell ⟨w.heap.size + 1, 1, none⟩ (.slice ao3 (l1 + 1) co3)).heap[w.heap.size + 1]? = some (.cells #[.slice a0 l0 c0, .slice ao3 (l1 + 1) co3] 27 (0, 0))) := Lib.hid (heap_setCell_same w3 (w.heap.size + 1) 1 _ _ (.slice ao3 (l1 + 1) co3) D3)
            have own4 := Lib.hid (own_set (b := w.heap.size + 1) (o := 1) (v := .slice ao3 (l1 + 1) co3) hown3 (fun e => by have := (World.ownsRow.lt hown3 _ e).1; omega))
            clear hown3 hat3 cD D3 A3
            go_wp2_with fail
            go_roundw
            case rel => exact ⟨l1 + 1, _, _, _, _, by omega, by go_num, own4.out, C4, K4, A4, D4, HSN.out _ _ TT.out⟩
            case measure => simp [intOf]; omega
          · have hex : l1 < nn2 ∧ bad' = true ∨ ¬ l1 < nn2 := by
              by_cases h : l1 < nn2
              · refine .inl ⟨h, ?_⟩
                cases bad' with
                | true => rfl
                | false => exact absurd ⟨h, rfl⟩ hgo
              · exact .inr h
            have T2 := list_cut S2.out hS.out (by rcases hex with ⟨_, h⟩ | h; exact .inr h; exact .inl (by omega))
            have T2 := Lib.hid T2
            have C2 := hC
            have G2 := hK
            have A2 := hA
            have D2 := hD
            clear hgo hS hown
            rcases hex with ⟨hlt, rfl⟩ | hlt
            all_goals
              have HA := Lib.hid (setRow_heap _ w.heap.size _ #[.slice a0 l0 c0, .slice a1 l1 c1] _ _ A2.out)
              have rng := Lib.hid (box_range (cs := [.slice a0 l0 c0, .slice a1 l1 c1]) D2.out)
              have h1 := Lib.hid (all_oneCell_toArray (mkT_Objects (a0 := a0) (l0 := l0) (c0 := c0) (a1 := a1) (l1 := l1) (c1 := c1)).one)
              go_wp2_with (first | (refine wpList_load_mid rfl 27 _ rfl (w.heap.size + 1) 0 rfl _ _ rng.out Tryz.underlying27 rfl HI.out ?_) | (refine wpList_store_row rfl 27 _ _ rfl w.heap.size 27 _ #[.slice a0 l0 c0, .slice a1 l1 c1] rfl rfl A2.out HI.out rfl h1.out ?_))
              refine bodyPost_ret (results_cell_row rfl _ _ w.heap.size _ _ (0, 0) _ rfl HA.out Tryz.underlying27 rfl HI.out) rfl ?_
              exact ⟨G2.setRow (Nat.le_refl _) _, _, _, _, rfl, mkT_Objects, C2.setOwn (own_lt h (Nat.le_refl _)) (fun k hk => setRow_other _ _ _ _ hk), (T1.out.two T2.out)⟩

end Go.Proofs.YtbhpbiimfcdgaaaGreat
