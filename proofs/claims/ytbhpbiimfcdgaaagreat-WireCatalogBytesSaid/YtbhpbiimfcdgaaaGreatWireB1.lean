/-
  The program's writer, by contract: lists of texts and numbers; small things (made by wip/gen_wire.py)
-/
import Derived.Test.YtbhpbiimfcdgaaaGreatWireA
import Derived.Test.YtbhpbiimfcdgaaaGreatWireS
import Derived.Deep.LoopGhost
namespace Go.Proofs.YtbhpbiimfcdgaaaGreat
open Go.RowKit
set_option linter.unusedVariables false

theorem box_cell {w : World} {b : Nat} {cs : Array Value} {t : TypeId} (h : w.heap[b]? = some (.cells cs t (0, 0))) (i : Nat) {v : Value} (hv : cs[i]? = some v) : w.cell? ⟨b, i, none⟩ = some v := by
  rw [cell_of_row w b i cs t (0, 0) h]; exact hv
theorem flatten_succ {tss : List (List Tok)} {k : Nat} {t : List Tok} (h : tss[k]? = some t) : (tss.take (k + 1)).flatten = (tss.take k).flatten ++ t := by
  obtain ⟨hk, rfl⟩ := List.getElem?_eq_some_iff.1 h
  rw [List.take_succ_eq_append_getElem hk, List.flatten_append]; simp
theorem flatten_split {tss : List (List Tok)} {k : Nat} {t : List Tok} (h : tss[k]? = some t) : tss.flatten = (tss.take k).flatten ++ (t ++ (tss.drop (k + 1)).flatten) := by
  obtain ⟨hk, rfl⟩ := List.getElem?_eq_some_iff.1 h
  have e : tss = tss.take k ++ (tss[k] :: tss.drop (k + 1)) := by rw [← List.drop_eq_getElem_cons hk, List.take_append_drop]
  have e2 := congrArg List.flatten e
  rw [List.flatten_append, List.flatten_cons] at e2
  exact e2
theorem firstF_long {l : Nat} (h : 4096 < l) : firstF [.many l] = 2 := by
  have hf : (Tok.many l).fault = 2 := by simp only [Tok.fault]; rw [if_pos h]
  simp only [firstF]; rw [if_neg (by rw [hf]; decide), hf]

set_option maxRecDepth 100000 in
set_option maxHeartbeats 2000000 in
theorem w_listText (p : Nat) (S : Nat → Prop) (xs : List UInt8) (a : Option Addr) (l c : Nat) (ts : List Tok) (w : World) (hW : Wr w S p xs) (hI : Is w S (.list .text) [.slice a l c] ts) (hroom : Room xs ts) :
    Calls Tryz.prog 115 #[.pointer (some ⟨p, 0, none⟩), .slice a l c, .func (.func 102) #[] #[]] w (WPost w S p xs ts) := by
  obtain ⟨a', l', c', xss, he, hlc, hcm, hxl, hrd, hcase⟩ := hI
  simp only [List.cons.injEq, Value.slice.injEq, and_true] at he
  obtain ⟨rfl, rfl, rfl⟩ := he
  have hl63 : l ≤ 9223372036854775807 := by unfold maxLen at hcm; omega
  have HXL := Lib.hid hxl; clear hxl
  rcases hcase with ⟨hlong, hts⟩ | ⟨tss, hle, htl, hts, hel⟩
  · have HT := Lib.hid hts; clear hts
    go_enter Tryz.func115, Tryz.ntmps115
    go_wp2_with fail
    have hf := firstF_long hlong
    exact ⟨rfl, HT.out ▸ ⟨Keeps.refl, .inr ⟨by rw [hf]; decide, by rw [hf]; rfl⟩⟩⟩
  · have hts : ts = [.many l] ++ tss.flatten := hts
    have R0 : Room xs ([.many l] ++ tss.flatten) := hts ▸ hroom
    have HT := Lib.hid hts; clear hts
    have HTL := Lib.hid htl; clear htl
    have fm : firstF [.many l] = 0 := firstF_cons (fault_many hle)
    have bm : bytesL [.num (l : Int)] = bytesL [.many l] := by simp [bytesL, Tok.bytes]
    have FM := Lib.hid fm; clear fm
    have BM := Lib.hid bm; clear bm
    go_enter Tryz.func115, Tryz.ntmps115
    go_wp2_with fail
    refine (w_number p S _ _ _ hW (show Room xs [.num (l : Int)] from R0.left)).mono ?_
    rintro e w1 ⟨K1, ⟨F1, rfl, W1⟩ | ⟨F1, rfl⟩⟩
    case inr => exact absurd (firstF_cons (fault_num (by omega) (by omega))) F1
    rw [BM.out] at W1
    go_wp2_with fail
    have R1 := R0.right FM.out
    go_loopw [7, 18] (fun _ i wr => ∃ k : Nat, k ≤ l ∧ i = .int .i64 k ∧ Keeps S w wr ∧ firstF (tss.take k).flatten = 0 ∧ Wr wr S p ((xs ++ bytesL [.many l]) ++ bytesL (tss.take k).flatten)) (fun _ i _ => l - (intOf i).toNat)
    case atStart => exact ⟨0, Nat.zero_le _, rfl, K1, rfl, by simpa [bytesL] using W1⟩
    case round =>
      obtain ⟨k, hk, rfl, K2, F2, W2⟩ := hrel
      by_cases hlt : k < l
      · obtain ⟨x, hx⟩ : ∃ x, xss[k]? = some x := ⟨_, List.getElem?_eq_getElem (by rw [HXL.out]; exact hlt)⟩
        obtain ⟨t, ht⟩ : ∃ t, tss[k]? = some t := ⟨_, List.getElem?_eq_getElem (by rw [HTL.out]; exact hlt)⟩
        have hI := (hel k x t hx ht).keep (S' := S) (fun _ h => h) K2
        have hrdk := hrd.keep (S' := S) (fun _ h => h) K2
        have R2 : Room ((xs ++ bytesL [.many l]) ++ bytesL (tss.take k).flatten) t := by
          have := R1; rw [flatten_split ht] at this; exact (this.right F2).left
        have FS := Lib.hid (flatten_succ ht)
        have FP := Lib.hid (flatten_split ht)
        rcases hrdk with h0 | ⟨b, o, rfl, hSb, hcell⟩
        · have := HXL.out; rw [h0] at this; simp at this; omega
        have hc := hcell k x hx
        obtain ⟨s, hs, rfl, rfl⟩ := hI
        have hc0 : wr.cell? ⟨b, o + k, none⟩ = some (.string s) := by simpa [Sh.size] using hc 0 _ rfl
        have Hx := Lib.hid hx; clear hx
        have Ht := Lib.hid ht; clear ht
        clear hc hcell hrd hel
        have F2 := Lib.hid F2
        go_wp2_with fail
        refine (w_text p S _ s _ hs W2 R2).mono ?_
        rintro e w3 ⟨K3, ⟨F3, rfl, W3⟩ | ⟨F3, rfl⟩⟩
        case inr => exact ⟨rfl, by rw [HT.out, FP.out]; exact WPost.step K2 FM.out (WPost.step Keeps.refl F2.out (WPost.stop K3 F3 rfl))⟩
        have F3 := Lib.hid F3
        go_wp2_with fail
        go_roundw
        case rel => exact ⟨k + 1, by omega, by go_num, K2.trans K3, by rw [FS.out]; exact firstF_zero.2 ⟨F2.out, F3.out⟩, by rw [FS.out, bytesL_append, ← List.append_assoc]; exact W3⟩
        case measure => simp [intOf]; omega
      · have hkl : k = l := by omega
        have FE := Lib.hid (show (tss.take k).flatten = tss.flatten by rw [List.take_of_length_le (by rw [HTL.out]; omega)])
        have F2 := Lib.hid F2
        clear hkl
        go_wp2_with fail
        go_end0
        have hF := F2.out
        rw [FE.out] at hF W2
        exact HT.out ▸ WPost.step K2 FM.out ⟨Keeps.refl, .inl ⟨hF, rfl, W2⟩⟩

set_option maxRecDepth 100000 in
set_option maxHeartbeats 2000000 in
theorem w_listNum (p : Nat) (S : Nat → Prop) (xs : List UInt8) (a : Option Addr) (l c : Nat) (ts : List Tok) (w : World) (hW : Wr w S p xs) (hI : Is w S (.list .num) [.slice a l c] ts) (hroom : Room xs ts) :
    Calls Tryz.prog 117 #[.pointer (some ⟨p, 0, none⟩), .slice a l c, .func (.func 84) #[] #[]] w (WPost w S p xs ts) := by
  obtain ⟨a', l', c', xss, he, hlc, hcm, hxl, hrd, hcase⟩ := hI
  simp only [List.cons.injEq, Value.slice.injEq, and_true] at he
  obtain ⟨rfl, rfl, rfl⟩ := he
  have hl63 : l ≤ 9223372036854775807 := by unfold maxLen at hcm; omega
  have HXL := Lib.hid hxl; clear hxl
  rcases hcase with ⟨hlong, hts⟩ | ⟨tss, hle, htl, hts, hel⟩
  · have HT := Lib.hid hts; clear hts
    go_enter Tryz.func117, Tryz.ntmps117
    go_wp2_with fail
    have hf := firstF_long hlong
    exact ⟨rfl, HT.out ▸ ⟨Keeps.refl, .inr ⟨by rw [hf]; decide, by rw [hf]; rfl⟩⟩⟩
  · have hts : ts = [.many l] ++ tss.flatten := hts
    have R0 : Room xs ([.many l] ++ tss.flatten) := hts ▸ hroom
    have HT := Lib.hid hts; clear hts
    have HTL := Lib.hid htl; clear htl
    have fm : firstF [.many l] = 0 := firstF_cons (fault_many hle)
    have bm : bytesL [.num (l : Int)] = bytesL [.many l] := by simp [bytesL, Tok.bytes]
    have FM := Lib.hid fm; clear fm
    have BM := Lib.hid bm; clear bm
    go_enter Tryz.func117, Tryz.ntmps117
    go_wp2_with fail
    refine (w_number p S _ _ _ hW (show Room xs [.num (l : Int)] from R0.left)).mono ?_
    rintro e w1 ⟨K1, ⟨F1, rfl, W1⟩ | ⟨F1, rfl⟩⟩
    case inr => exact absurd (firstF_cons (fault_num (by omega) (by omega))) F1
    rw [BM.out] at W1
    go_wp2_with fail
    have R1 := R0.right FM.out
    go_loopw [7, 18] (fun _ i wr => ∃ k : Nat, k ≤ l ∧ i = .int .i64 k ∧ Keeps S w wr ∧ firstF (tss.take k).flatten = 0 ∧ Wr wr S p ((xs ++ bytesL [.many l]) ++ bytesL (tss.take k).flatten)) (fun _ i _ => l - (intOf i).toNat)
    case atStart => exact ⟨0, Nat.zero_le _, rfl, K1, rfl, by simpa [bytesL] using W1⟩
    case round =>
      obtain ⟨k, hk, rfl, K2, F2, W2⟩ := hrel
      by_cases hlt : k < l
      · obtain ⟨x, hx⟩ : ∃ x, xss[k]? = some x := ⟨_, List.getElem?_eq_getElem (by rw [HXL.out]; exact hlt)⟩
        obtain ⟨t, ht⟩ : ∃ t, tss[k]? = some t := ⟨_, List.getElem?_eq_getElem (by rw [HTL.out]; exact hlt)⟩
        have hI := (hel k x t hx ht).keep (S' := S) (fun _ h => h) K2
        have hrdk := hrd.keep (S' := S) (fun _ h => h) K2
        have R2 : Room ((xs ++ bytesL [.many l]) ++ bytesL (tss.take k).flatten) t := by
          have := R1; rw [flatten_split ht] at this; exact (this.right F2).left
        have FS := Lib.hid (flatten_succ ht)
        have FP := Lib.hid (flatten_split ht)
        rcases hrdk with h0 | ⟨b, o, rfl, hSb, hcell⟩
        · have := HXL.out; rw [h0] at this; simp at this; omega
        have hc := hcell k x hx
        obtain ⟨n, lo, hi, rfl, rfl⟩ := hI
        have hc0 : wr.cell? ⟨b, o + k, none⟩ = some (.int .i64 n) := by simpa [Sh.size] using hc 0 _ rfl
        have Hx := Lib.hid hx; clear hx
        have Ht := Lib.hid ht; clear ht
        clear hc hcell hrd hel
        have F2 := Lib.hid F2
        go_wp2_with fail
        refine (w_number p S _ n _ W2 R2).mono ?_
        rintro e w3 ⟨K3, ⟨F3, rfl, W3⟩ | ⟨F3, rfl⟩⟩
        case inr => exact ⟨rfl, by rw [HT.out, FP.out]; exact WPost.step K2 FM.out (WPost.step Keeps.refl F2.out (WPost.stop K3 F3 rfl))⟩
        have F3 := Lib.hid F3
        go_wp2_with fail
        go_roundw
        case rel => exact ⟨k + 1, by omega, by go_num, K2.trans K3, by rw [FS.out]; exact firstF_zero.2 ⟨F2.out, F3.out⟩, by rw [FS.out, bytesL_append, ← List.append_assoc]; exact W3⟩
        case measure => simp [intOf]; omega
      · have hkl : k = l := by omega
        have FE := Lib.hid (show (tss.take k).flatten = tss.flatten by rw [List.take_of_length_le (by rw [HTL.out]; omega)])
        have F2 := Lib.hid F2
        clear hkl
        go_wp2_with fail
        go_end0
        have hF := F2.out
        rw [FE.out] at hF W2
        exact HT.out ▸ WPost.step K2 FM.out ⟨Keeps.refl, .inl ⟨hF, rfl, W2⟩⟩

set_option maxRecDepth 100000 in
set_option maxHeartbeats 2000000 in
theorem w_column (p : Nat) (S : Nat → Prop) (xs : List UInt8) (cs : List Value) (ts : List Tok) (w : World) (hW : Wr w S p xs) (hI : Is w S shColumn cs ts) (hroom : Room xs ts) :
    Calls Tryz.prog 104 #[.pointer (some ⟨p, 0, none⟩), .agg cs.toArray] w (WPost w S p xs ts) := by
  obtain ⟨s0, n1, b2, rfl, hts, hs0, lo1, hi1⟩ := open_Column hI
  have R0 : Room xs ([Tok.text s0.data.toList] ++ ([Tok.num n1] ++ [Tok.flag b2])) := hts ▸ hroom
  have HT := Lib.hid hts; clear hts
  have W0 := hW.boxed (.cells #[.string s0, .int .i64 n1, .bool b2] 162)
  have G0 : Keeps S w (w.alloc (.cells #[.string s0, .int .i64 n1, .bool b2] 162)) := Keeps.refl.alloc _
  have H0 := Lib.hid (heap_alloc_new w (.cells #[.string s0, .int .i64 n1, .bool b2] 162))
  go_enter Tryz.func104, Tryz.ntmps104
  go_wp2_with fail
  refine (w_text p (Also S w.heap.size) _ s0 _ hs0 W0 R0.left).mono ?_
  rintro e w1 ⟨K1, ⟨F1, rfl, W1⟩ | ⟨F1, rfl⟩⟩
  case inr => exact ⟨rfl, HT.out ▸ WPost.boxed (WPost.stop K1 F1 rfl)⟩
  have R1 := R0.right F1
  have G1 := G0.trans K1.out
  have H1 := Lib.hid (K1.row H0.out Also.new)
  have c1_0 := box_cell H1.out 1 rfl
  have F1 := Lib.hid F1
  go_wp2_with fail
  clear c1_0
  refine (w_number p (Also S w.heap.size) _ n1 _ W1 R1.left).mono ?_
  rintro e w2 ⟨K2, ⟨F2, rfl, W2⟩ | ⟨F2, rfl⟩⟩
  case inr => exact ⟨rfl, HT.out ▸ WPost.boxed (WPost.step K1 F1.out (WPost.stop K2 F2 rfl))⟩
  have R2 := R1.right F2
  have G2 := G1.trans K2.out
  have H2 := Lib.hid (K2.row H1.out Also.new)
  have c2_0 := box_cell H2.out 2 rfl
  have F2 := Lib.hid F2
  go_wp2_with fail
  clear c2_0
  refine (w_truth p (Also S w.heap.size) _ b2 _ W2 R2).mono ?_
  rintro e w3 ⟨K3, ⟨F3, rfl, W3⟩ | ⟨F3, rfl⟩⟩
  case inr => exact ⟨rfl, HT.out ▸ WPost.boxed (WPost.step K1 F1.out (WPost.step K2 F2.out ⟨K3, .inr ⟨F3, rfl⟩⟩))⟩
  have F3 := Lib.hid F3
  go_wp2_with fail
  go_end0
  exact HT.out ▸ WPost.boxed (WPost.step K1 F1.out (WPost.step K2 F2.out ⟨K3, .inl ⟨F3.out, rfl, W3⟩⟩))

end Go.Proofs.YtbhpbiimfcdgaaaGreat
