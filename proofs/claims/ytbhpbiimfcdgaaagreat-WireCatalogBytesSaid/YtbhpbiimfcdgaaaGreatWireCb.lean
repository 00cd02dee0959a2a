/-
  The document's reader, by contract: lists (made by wip/gen_wire.py)
-/
import Derived.Test.YtbhpbiimfcdgaaaGreatWireCt
import Derived.Test.YtbhpbiimfcdgaaaGreatWireQ2
import Derived.Deep.LoopGhost
namespace Go.Proofs.YtbhpbiimfcdgaaaGreat
open Go.RowKit
set_option linter.unusedVariables false

theorem cell_fresh_at (w : World) (cs : List Value) (t : TypeId) (n : Nat) (hn : w.heap.size = n) : ∀ j u, cs[j]? = some u → (w.alloc (.cells cs.toArray t)).cell? ((⟨n, 0, none⟩ : Addr).add j) = some u := hn ▸ cell_fresh w cs t
theorem list_cut {bs : List UInt8} {e : Sh} {i j0 j k n : Nat} {bad bad0 bad' : Bool} (h0 : (bad = false ∧ bad0 = false ∧ pNum 4096 (bs.drop i) = some (n, bs.drop j0)) ∨ (bad0 = true ∧ (bad = true ∨ pNum 4096 (bs.drop i) = none)))
    (h : (bad0 = false ∧ bad' = false ∧ ∃ ts, parseN (parse e) k (bs.drop j0) = some (ts, bs.drop j)) ∨ (bad' = true ∧ (bad0 = true ∨ parseN (parse e) n (bs.drop j0) = none))) (hk : k = n ∨ bad' = true) : CStep bs (.list e) i bad j bad' := by
  rcases h0 with ⟨rfl, rfl, hp⟩ | ⟨rfl, hb⟩
  · rcases h with ⟨_, rfl, ts, h⟩ | ⟨rfl, h | h⟩
    · rcases hk with rfl | hk
      · exact .inl ⟨rfl, rfl, _, parse_list_some hp h⟩
      · cases hk
    · cases h
    · exact .inr ⟨rfl, .inr (parse_list_fail hp h)⟩
  · rcases h with ⟨h, _⟩ | ⟨rfl, _⟩
    · cases h
    · refine .inr ⟨rfl, ?_⟩
      rcases hb with hb | hb
      · exact .inl hb
      · exact .inr (parse_list_none hb)
theorem list_more {bs : List UInt8} {e : Sh} {j0 j jj k n : Nat} {bad0 bb : Bool}
    (h : (bad0 = false ∧ false = false ∧ ∃ ts, parseN (parse e) k (bs.drop j0) = some (ts, bs.drop j)) ∨ (false = true ∧ (bad0 = true ∨ parseN (parse e) n (bs.drop j0) = none))) (hs : CStep bs e j false jj bb) (hk : k < n) :
    (bad0 = false ∧ bb = false ∧ ∃ ts, parseN (parse e) (k + 1) (bs.drop j0) = some (ts, bs.drop jj)) ∨ (bb = true ∧ (bad0 = true ∨ parseN (parse e) n (bs.drop j0) = none)) := by
  rcases h with ⟨rfl, _, ts, h⟩ | ⟨h, _⟩
  · rcases hs with ⟨_, rfl, us, hs⟩ | ⟨rfl, hs | hs⟩
    · exact .inl ⟨rfl, rfl, _, parseN_step h hs⟩
    · cases hs
    · exact .inr ⟨rfl, .inr (parseN_fail h hs hk)⟩
  · cases h
theorem own_off2 {w w' : World} {p c B lo : Nat} {T : TypeId} {sz : Nat} {o : Value} {k : Nat} {cs : List Value} (h : w.ownsRow lo T sz o k cs) (hk : Keeps (Off2 p c) w w') (hp : ∀ g, lo ≤ g → B ≤ g ∧ g ≠ p ∧ g ≠ c) : w'.ownsRow lo T sz o k cs := by
  refine ⟨h.1, ?_⟩
  rcases h.2 with h0 | ⟨g, cap, cur, rfl, a1, a2, a3⟩
  · exact .inl h0
  · exact .inr ⟨g, cap, cur, rfl, a1, hk.row a2 ⟨(hp g a1).2.1, (hp g a1).2.2⟩, a3⟩
theorem own_alloc {w : World} {lo : Nat} {T : TypeId} {sz : Nat} {o : Value} {k : Nat} {cs : List Value} (h : w.ownsRow lo T sz o k cs) (ob : Obj) : (w.alloc ob).ownsRow lo T sz o k cs := by
  refine ⟨h.1, ?_⟩
  rcases h.2 with h0 | ⟨g, cap, cur, rfl, a1, a2, a3⟩
  · exact .inl h0
  · exact .inr ⟨g, cap, cur, rfl, a1, (Below.heap_alloc _ _ _ (lt_of_block a2)).trans a2, a3⟩
theorem own_set {w : World} {lo b o : Nat} {T : TypeId} {sz : Nat} {v u : Value} {k : Nat} {cs : List Value} (h : w.ownsRow lo T sz u k cs) (hb : ¬ u.ownBlock = some b) : (w.setCell ⟨b, o, none⟩ v).ownsRow lo T sz u k cs := by
  refine ⟨h.1, ?_⟩
  rcases h.2 with h0 | ⟨g, cap, cur, rfl, a1, a2, a3⟩
  · exact .inl h0
  · exact .inr ⟨g, cap, cur, rfl, a1, row_set a2 (fun e => hb (by rw [← e]; rfl)), a3⟩

set_option maxRecDepth 100000 in
set_option maxHeartbeats 2000000 in
theorem c_listText (p c : Nat) (B : Nat) (bs : List UInt8) (i : Nat) (bad : Bool) (w : World) (h : Cu w p c B bs i bad) :
    Calls Tryz.prog 44 #[.pointer (some ⟨p, 0, none⟩)] w (CPost w p c B bs (.list .text) i bad one) := by
  obtain ⟨i0, hi, hz0, hz1, hz2⟩ := info_parts info_string
  have hlo : ∀ g, w.heap.size ≤ g → B ≤ g ∧ g ≠ p ∧ g ≠ c := fun g hg => own_lt h hg
  have HLO := Lib.hid hlo; clear hlo
  go_enter Tryz.func44, Tryz.ntmps44
  go_wp2_with fail
  refine (c_many p c B bs i bad w h).mono ?_
  rintro e w0 ⟨K0, n, j0, bad0, rfl, hn, C0, S0⟩
  have S0 := Lib.hid S0
  go_wp2_with fail
  go_loopw [4, 5] (fun o i wr => ∃ (k j : Nat) (bad' : Bool) (o' : Value) (xs : List Value), o' = o ∧ k ≤ n ∧ i = .int .i64 k ∧ wr.ownsRow w.heap.size 9 1 o' k xs ∧ Cu wr p c B bs j bad' ∧ Keeps (Off2 p c) w wr ∧
    ((bad0 = false ∧ bad' = false ∧ ∃ ts, parseN (parse .text) k (bs.drop j0) = some (ts, bs.drop j)) ∨ (bad' = true ∧ (bad0 = true ∨ parseN (parse .text) n (bs.drop j0) = none)))) (fun _ i _ => n - (intOf i).toNat)
  case atStart => exact ⟨0, j0, bad0, _, [], rfl, Nat.zero_le _, rfl, World.ownsRow_nil _ _ _ _, C0, K0, by cases bad0; exact .inl ⟨rfl, rfl, [], rfl⟩; exact .inr ⟨rfl, .inl rfl⟩⟩
  case round =>
    obtain ⟨k, j, bad', o', xs, rfl, hk, rfl, hown, hC, hK, hS⟩ := hrel
    have hS := Lib.hid hS
    have hwr := hK.size
    obtain ⟨_, d1, _⟩ := hC.open_
    have fin : ∀ (a' : Option Addr) (c' : Nat), (k = n ∨ bad' = true) → CPost w p c B bs (.list .text) i bad one (.returned (.slice a' k c')) wr := fun a' c' hkn => ⟨hK, j, bad', [.slice a' k c'], rfl, ⟨a', k, c', rfl⟩, hC, list_cut S0.out hS.out hkn⟩
    have FIN := Lib.hid fin; clear fin
    obtain ⟨a0, c0, rfl⟩ := own_form hown
    cases bad' with
    | true =>
      by_cases hlt : k < n
      all_goals
        go_wp2_with fail
        go_ret
        exact FIN.out a0 c0 (by simp)
    | false =>
      by_cases hlt : k < n
      · have hob := fun g hg => (World.ownsRow.lt hown g hg).1
        have HOB := Lib.hid hob; clear hob
        have hsn := fun (jj : Nat) (bb : Bool) (h : CStep bs .text j false jj bb) => list_more hS.out h hlt
        have HSN := Lib.hid hsn; clear hsn
        go_wp2_with fail
        refine (c_text p c B bs j false wr hC).mono ?_
        rintro e w1 ⟨K1, j1, bad1, q1, rfl, J1, C1, T1⟩
        obtain ⟨s1, rfl⟩ := J1
        simp only [one, List.headD_cons]
        have T1 := Lib.hid T1
        have GG := hK.trans K1
        have own1 := own_off2 hown K1 HLO.out
        have OWN := Lib.hid (own_alloc own1 (.cells #[.string s1] 9))
        go_wp2_with (at_builtin; refine wpList_append_own_at _ rfl _ _ 28 rfl w.heap.size 9 i0 _ 1 16 Tryz.underlying28 hi hz0 hz1 hz2 rfl (by decide) _ _ _ rfl OWN.out ⟨_, 0, none⟩ 1 1 [.string s1] rfl rfl ?c1 ?c2 ?c3 ?c4 ?c5 ?_)
        case c1 => exact fun j u hu => cell_fresh_at _ _ _ _ (by simp) j u hu
        case c2 => exact by intro u hu; simp at hu; subst hu; rfl
        case c3 => unfold maxLen; omega
        case c4 => omega
        case c5 => have := GG.size; first | (simp at this ⊢; omega) | (simp [World.setCell] at this ⊢; omega)
        intro o3 w3 hown3 hgrow _ hat3
        have hC3 : Cu w3 p c B bs j1 bad1 := (C1.alloc _).keep fun g hg h => hgrow.block g hg fun e => by have := HLO.out g (HOB.out g e.symm); omega
        have hK3 : Keeps (Off2 p c) w w3 := keeps_grown (GG.alloc _) hgrow HOB.out
        have HOWN3 := Lib.hid hown3; clear hown3 hat3
        go_wp2_with fail
        go_roundw
        case rel => exact ⟨k + 1, _, _, o3, _, rfl, by omega, by go_num, HOWN3.out, hC3, hK3, HSN.out _ _ T1.out⟩
        case measure => simp [intOf]; omega
      · have hkn : k = n := by omega
        have HKN := Lib.hid hkn; clear hkn
        go_wp2_with fail
        go_ret
        exact FIN.out a0 c0 (.inl HKN.out)

set_option maxRecDepth 100000 in
set_option maxHeartbeats 2000000 in
theorem c_listColumn (p c : Nat) (B : Nat) (bs : List UInt8) (i : Nat) (bad : Bool) (w : World) (h : Cu w p c B bs i bad) :
    Calls Tryz.prog 95 #[.pointer (some ⟨p, 0, none⟩)] w (CPost w p c B bs (.list shColumn) i bad one) := by
  obtain ⟨i0, hi, hz0, hz1, hz2⟩ := info_parts info_Column
  have hlo : ∀ g, w.heap.size ≤ g → B ≤ g ∧ g ≠ p ∧ g ≠ c := fun g hg => own_lt h hg
  have HLO := Lib.hid hlo; clear hlo
  go_enter Tryz.func95, Tryz.ntmps95
  go_wp2_with fail
  refine (c_many p c B bs i bad w h).mono ?_
  rintro e w0 ⟨K0, n, j0, bad0, rfl, hn, C0, S0⟩
  have S0 := Lib.hid S0
  go_wp2_with fail
  go_loopw [4, 5] (fun o i wr => ∃ (k j : Nat) (bad' : Bool) (o' : Value) (xs : List Value), o' = o ∧ k ≤ n ∧ i = .int .i64 k ∧ wr.ownsRow w.heap.size 162 3 o' k xs ∧ Cu wr p c B bs j bad' ∧ Keeps (Off2 p c) w wr ∧
    ((bad0 = false ∧ bad' = false ∧ ∃ ts, parseN (parse shColumn) k (bs.drop j0) = some (ts, bs.drop j)) ∨ (bad' = true ∧ (bad0 = true ∨ parseN (parse shColumn) n (bs.drop j0) = none)))) (fun _ i _ => n - (intOf i).toNat)
  case atStart => exact ⟨0, j0, bad0, _, [], rfl, Nat.zero_le _, rfl, World.ownsRow_nil _ _ _ _, C0, K0, by cases bad0; exact .inl ⟨rfl, rfl, [], rfl⟩; exact .inr ⟨rfl, .inl rfl⟩⟩
  case round =>
    obtain ⟨k, j, bad', o', xs, rfl, hk, rfl, hown, hC, hK, hS⟩ := hrel
    have hS := Lib.hid hS
    have hwr := hK.size
    obtain ⟨_, d1, _⟩ := hC.open_
    have fin : ∀ (a' : Option Addr) (c' : Nat), (k = n ∨ bad' = true) → CPost w p c B bs (.list shColumn) i bad one (.returned (.slice a' k c')) wr := fun a' c' hkn => ⟨hK, j, bad', [.slice a' k c'], rfl, ⟨a', k, c', rfl⟩, hC, list_cut S0.out hS.out hkn⟩
    have FIN := Lib.hid fin; clear fin
    obtain ⟨a0, c0, rfl⟩ := own_form hown
    cases bad' with
    | true =>
      by_cases hlt : k < n
      all_goals
        go_wp2_with fail
        go_ret
        exact FIN.out a0 c0 (by simp)
    | false =>
      by_cases hlt : k < n
      · have hob := fun g hg => (World.ownsRow.lt hown g hg).1
        have HOB := Lib.hid hob; clear hob
        have hsn := fun (jj : Nat) (bb : Bool) (h : CStep bs shColumn j false jj bb) => list_more hS.out h hlt
        have HSN := Lib.hid hsn; clear hsn
        have hg := HLO.out wr.heap.size hwr
        have C0' := hC.alloc (.cells #[.string ByteArray.empty, .int .i64 0, .bool false] 162)
        have G0 : Keeps (Off2 p c) w (wr.alloc (.cells #[.string ByteArray.empty, .int .i64 0, .bool false] 162)) := hK.alloc _
        have D0 := Lib.hid (heap_alloc_new wr (.cells #[.string ByteArray.empty, .int .i64 0, .bool false] 162))
        have O0 := Lib.hid (own_alloc hown (.cells #[.string ByteArray.empty, .int .i64 0, .bool false] 162))
        have X0 := hC.ltp
        go_wp2_with fail
        refine (c_text p c B bs _ _ _ C0').mono ?_
        rintro e w1 ⟨K1, j1, bad1, q1, rfl, J1, C1, T1⟩
        obtain ⟨s0, rfl⟩ := J1
        simp only [one, List.headD_cons]
        have D1' := K1.row D0.out ⟨hg.2.1, hg.2.2⟩
        have G1' := G0.trans K1
        have O1' := own_off2 O0.out K1 HLO.out
        have cc := box_cell D1' 0 rfl
        have ff : w1.frozen? ⟨wr.heap.size, 0, none⟩ = false := frozen_of_row w1 _ 0 _ _ D1'
        have C1 := cu_set (g := wr.heap.size) (o := 0) (v := .string s0) C1 hg
        have G1 : Keeps (Off2 p c) w (w1.setCell ⟨wr.heap.size, 0, none⟩ (.string s0)) := keeps_set G1' hwr
        have D1 : Hid ((w1.setCell ⟨wr.heap.size, 0, none⟩ (.string s0)).heap[wr.heap.size]? = some (.cells #[.string s0, .int .i64 0, .bool false] 162 (0, 0))) := Lib.hid (heap_setCell_same w1 wr.heap.size 0 _ _ (.string s0) D1')
        have O1 := Lib.hid (own_set (b := wr.heap.size) (o := 0) (v := .string s0) O1' (fun e => by have := (World.ownsRow.lt hown _ e).2; omega))
        clear D1' G1' O1'
        have T1 := Lib.hid T1
        go_wp2_with fail
        clear cc ff
        refine (c_num p c B bs _ _ _ C1).mono ?_
        rintro e w2 ⟨K2, j2, bad2, q2, rfl, J2, C2, T2⟩
        obtain ⟨n1, rfl⟩ := J2
        simp only [one, List.headD_cons]
        have D2' := K2.row D1.out ⟨hg.2.1, hg.2.2⟩
        have G2' := G1.trans K2
        have O2' := own_off2 O1.out K2 HLO.out
        have cc := box_cell D2' 1 rfl
        have ff : w2.frozen? ⟨wr.heap.size, 1, none⟩ = false := frozen_of_row w2 _ 1 _ _ D2'
        have C2 := cu_set (g := wr.heap.size) (o := 1) (v := .int .i64 n1) C2 hg
        have G2 : Keeps (Off2 p c) w (w2.setCell ⟨wr.heap.size, 1, none⟩ (.int .i64 n1)) := keeps_set G2' hwr
        have D2 : Hid ((w2.setCell ⟨wr.heap.size, 1, none⟩ (.int .i64 n1)).heap[wr.heap.size]? = some (.cells #[.string s0, .int .i64 n1, .bool false] 162 (0, 0))) := Lib.hid (heap_setCell_same w2 wr.heap.size 1 _ _ (.int .i64 n1) D2')
        have O2 := Lib.hid (own_set (b := wr.heap.size) (o := 1) (v := .int .i64 n1) O2' (fun e => by have := (World.ownsRow.lt hown _ e).2; omega))
        clear D2' G2' O2'
        have T2 := Lib.hid T2
        go_wp2_with fail
        clear cc ff
        refine (c_flag p c B bs _ _ _ C2).mono ?_
        rintro e w3 ⟨K3, j3, bad3, q3, rfl, J3, C3, T3⟩
        obtain ⟨b2, rfl⟩ := J3
        simp only [one, List.headD_cons]
        have D3' := K3.row D2.out ⟨hg.2.1, hg.2.2⟩
        have G3' := G2.trans K3
        have O3' := own_off2 O2.out K3 HLO.out
        have cc := box_cell D3' 2 rfl
        have ff : w3.frozen? ⟨wr.heap.size, 2, none⟩ = false := frozen_of_row w3 _ 2 _ _ D3'
        have C3 := cu_set (g := wr.heap.size) (o := 2) (v := .bool b2) C3 hg
        have G3 : Keeps (Off2 p c) w (w3.setCell ⟨wr.heap.size, 2, none⟩ (.bool b2)) := keeps_set G3' hwr
        have D3 : Hid ((w3.setCell ⟨wr.heap.size, 2, none⟩ (.bool b2)).heap[wr.heap.size]? = some (.cells #[.string s0, .int .i64 n1, .bool b2] 162 (0, 0))) := Lib.hid (heap_setCell_same w3 wr.heap.size 2 _ _ (.bool b2) D3')
        have O3 := Lib.hid (own_set (b := wr.heap.size) (o := 2) (v := .bool b2) O3' (fun e => by have := (World.ownsRow.lt hown _ e).2; omega))
        clear D3' G3' O3'
        have T3 := Lib.hid T3
        have rng := Lib.hid (box_range (cs := [.string s0, .int .i64 n1, .bool b2]) D3.out)
        have HI : Hid ((Tryz.prog.info? 162).map (·.size) = some 3) := Lib.hid (by kernel_rfl)
        have OWN := Lib.hid (own_alloc O3.out (.cells #[.string s0, .int .i64 n1, .bool b2] 162))
        go_wp2_with (first | (refine wpList_load_mid rfl 162 _ rfl wr.heap.size 0 rfl _ _ rng.out Tryz.underlying162 rfl HI.out ?_) | (at_builtin; refine wpList_append_own_at _ rfl _ _ 64 rfl w.heap.size 162 i0 _ 3 32 Tryz.underlying64 hi hz0 hz1 hz2 rfl (by decide) _ _ _ rfl OWN.out ⟨_, 0, none⟩ 1 1 [.string s0, .int .i64 n1, .bool b2] rfl rfl ?c1 ?c2 ?c3 ?c4 ?c5 ?_))
        case c1 => exact fun j u hu => cell_fresh_at _ _ _ _ (by simp) j u hu
        case c2 => exact (mkT_Column).one
        case c3 => unfold maxLen; omega
        case c4 => omega
        case c5 => have := G3.size; first | (simp at this ⊢; omega) | (simp [World.setCell] at this ⊢; omega)
        intro o3 w3 hown3 hgrow _ hat3
        have hC3 : Cu w3 p c B bs j3 bad3 := (C3.alloc _).keep fun g hg h => hgrow.block g hg fun e => by have := HLO.out g (HOB.out g e.symm); omega
        have hK3 : Keeps (Off2 p c) w w3 := keeps_grown (G3.alloc _) hgrow HOB.out
        have HOWN3 := Lib.hid hown3; clear hown3 hat3
        go_wp2_with fail
        go_roundw
        case rel => exact ⟨k + 1, _, _, o3, _, rfl, by omega, by go_num, HOWN3.out, hC3, hK3, HSN.out _ _ (T1.out.two (T2.out.two T3.out))⟩
        case measure => simp [intOf]; omega
      · have hkn : k = n := by omega
        have HKN := Lib.hid hkn; clear hkn
        go_wp2_with fail
        go_ret
        exact FIN.out a0 c0 (.inl HKN.out)

end Go.Proofs.YtbhpbiimfcdgaaaGreat
