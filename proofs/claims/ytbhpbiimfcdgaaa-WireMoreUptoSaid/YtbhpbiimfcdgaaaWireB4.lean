/-
  The program's writer, by contract: tables, catalogs, machines (made by wip/gen_wire.py)
-/
import Derived.Test.YtbhpbiimfcdgaaaWireB3
namespace Go.Proofs.Ytbhpbiimfcdgaaa
open Go.RowKit
set_option linter.unusedVariables false

set_option maxRecDepth 100000 in
set_option maxHeartbeats 2000000 in
theorem w_listRule (p : Nat) (S : Nat → Prop) (xs : List UInt8) (a : Option Addr) (l c : Nat) (ts : List Tok) (w : World) (hW : Wr w S p xs) (hI : Is w S (.list shRule) [.slice a l c] ts) (hroom : Room xs ts) :
    Calls Try.prog 155 #[.pointer (some ⟨p, 0, none⟩), .slice a l c, .func (.func 76) #[] #[]] w (WPost w S p xs ts) := by
  obtain ⟨a', l', c', xss, he, hlc, hcm, hxl, hrd, hcase⟩ := hI
  simp only [List.cons.injEq, Value.slice.injEq, and_true] at he
  obtain ⟨rfl, rfl, rfl⟩ := he
  have hl63 : l ≤ 9223372036854775807 := by unfold maxLen at hcm; omega
  have HXL := Lib.hid hxl; clear hxl
  rcases hcase with ⟨hlong, hts⟩ | ⟨tss, hle, htl, hts, hel⟩
  · have HT := Lib.hid hts; clear hts
    go_enter Try.func155, Try.ntmps155
    go_wp2_with fail
    have hf := firstF_long hlong
    exact ⟨rfl, HT.out ▸ ⟨Keeps.refl, .inr ⟨by rw [hf]; decide, by rw [hf]; rfl⟩⟩⟩
  · have hts : ts = [.many l] ++ tss.flatten := hts
    have R0 : Room xs ([.many l] ++ tss.flatten) := hts ▸ hroom
    have HT := Lib.hid hts; clear hts
    have HTL := Lib.hid htl; clear htl
    have fm : firstF [.many l] = 0 := firstF_cons (fault_many hle)
    have bm : bytesL [.num (l : Int)] = bytesL [.many l] := by simp [bytesL, Tok.bytes]
    have FM := Lib.hid fm; clear fm
    have BM := Lib.hid bm; clear bm
    go_enter Try.func155, Try.ntmps155
    go_wp2_with fail
    refine (w_number p S _ _ _ hW (show Room xs [.num (l : Int)] from R0.left)).mono ?_
    rintro e w1 ⟨K1, ⟨F1, rfl, W1⟩ | ⟨F1, rfl⟩⟩
    case inr => exact absurd (firstF_cons (fault_num (by omega) (by omega))) F1
    rw [BM.out] at W1
    go_wp2_with fail
    have R1 := R0.right FM.out
    go_loopw [7, 18] (fun _ i wr => ∃ k : Nat, k ≤ l ∧ i = .int .i64 k ∧ Keeps S w wr ∧ firstF (tss.take k).flatten = 0 ∧ Wr wr S p ((xs ++ bytesL [.many l]) ++ bytesL (tss.take k).flatten)) (fun _ i _ => l - (intOf i).toNat)
    case atStart => exact ⟨0, Nat.zero_le _, rfl, K1, rfl, by simpa [bytesL] using W1⟩
    case round =>
      obtain ⟨k, hk, rfl, K2, F2, W2⟩ := hrel
      by_cases hlt : k < l
      · obtain ⟨x, hx⟩ : ∃ x, xss[k]? = some x := ⟨_, List.getElem?_eq_getElem (by rw [HXL.out]; exact hlt)⟩
        obtain ⟨t, ht⟩ : ∃ t, tss[k]? = some t := ⟨_, List.getElem?_eq_getElem (by rw [HTL.out]; exact hlt)⟩
        have hI := (hel k x t hx ht).keep (S' := S) (fun _ h => h) K2
        have hrdk := hrd.keep (S' := S) (fun _ h => h) K2
        have R2 : Room ((xs ++ bytesL [.many l]) ++ bytesL (tss.take k).flatten) t := by
          have := R1; rw [flatten_split ht] at this; exact (this.right F2).left
        have FS := Lib.hid (flatten_succ ht)
        have FP := Lib.hid (flatten_split ht)
        rcases hrdk with h0 | ⟨b, o, rfl, hSb, hcell⟩
        · have := HXL.out; rw [h0] at this; simp at this; omega
        have hc := hcell k x hx
        obtain ⟨s0, n1, a2, l2, c2, n3, n4, s5, s6, s7, rfl⟩ := cells_Rule hI
        have hc0 : wr.cell? ⟨b, o + k * 8, none⟩ = some (.string s0) := hc 0 _ rfl
        have hc1 : wr.cell? ⟨b, o + k * 8 + 1, none⟩ = some (.int .i64 n1) := hc 1 _ rfl
        have hc2 : wr.cell? ⟨b, o + k * 8 + 2, none⟩ = some (.slice a2 l2 c2) := hc 2 _ rfl
        have hc3 : wr.cell? ⟨b, o + k * 8 + 3, none⟩ = some (.int .i64 n3) := hc 3 _ rfl
        have hc4 : wr.cell? ⟨b, o + k * 8 + 4, none⟩ = some (.int .i64 n4) := hc 4 _ rfl
        have hc5 : wr.cell? ⟨b, o + k * 8 + 5, none⟩ = some (.string s5) := hc 5 _ rfl
        have hc6 : wr.cell? ⟨b, o + k * 8 + 6, none⟩ = some (.string s6) := hc 6 _ rfl
        have hc7 : wr.cell? ⟨b, o + k * 8 + 7, none⟩ = some (.string s7) := hc 7 _ rfl
        have Hx := Lib.hid hx; clear hx
        have Ht := Lib.hid ht; clear ht
        clear hc hcell hrd hel
        have F2 := Lib.hid F2
        go_wp2_with fail
        refine (w_rule p S _ _ t _ (W2.alloc _) (hI.keep (fun _ h => h) (Keeps.refl.alloc _)) R2).mono ?_
        rintro e w3 ⟨K3, ⟨F3, rfl, W3⟩ | ⟨F3, rfl⟩⟩
        case inr => exact ⟨rfl, by rw [HT.out, FP.out]; exact WPost.step K2 FM.out (WPost.step Keeps.refl F2.out (WPost.stop ((Keeps.refl.alloc _).trans K3) F3 rfl))⟩
        have F3 := Lib.hid F3
        go_wp2_with fail
        go_roundw
        case rel => exact ⟨k + 1, by omega, by go_num, K2.trans ((Keeps.refl.alloc _).trans K3), by rw [FS.out]; exact firstF_zero.2 ⟨F2.out, F3.out⟩, by rw [FS.out, bytesL_append, ← List.append_assoc]; exact W3⟩
        case measure => simp [intOf]; omega
      · have hkl : k = l := by omega
        have FE := Lib.hid (show (tss.take k).flatten = tss.flatten by rw [List.take_of_length_le (by rw [HTL.out]; omega)])
        have F2 := Lib.hid F2
        clear hkl
        go_wp2_with fail
        go_end0
        have hF := F2.out
        rw [FE.out] at hF W2
        exact HT.out ▸ WPost.step K2 FM.out ⟨Keeps.refl, .inl ⟨hF, rfl, W2⟩⟩

set_option maxRecDepth 100000 in
set_option maxHeartbeats 2000000 in
theorem w_listSchema (p : Nat) (S : Nat → Prop) (xs : List UInt8) (a : Option Addr) (l c : Nat) (ts : List Tok) (w : World) (hW : Wr w S p xs) (hI : Is w S (.list shSchema) [.slice a l c] ts) (hroom : Room xs ts) :
    Calls Try.prog 96 #[.pointer (some ⟨p, 0, none⟩), .slice a l c, .func (.func 97) #[] #[]] w (WPost w S p xs ts) := by
  obtain ⟨a', l', c', xss, he, hlc, hcm, hxl, hrd, hcase⟩ := hI
  simp only [List.cons.injEq, Value.slice.injEq, and_true] at he
  obtain ⟨rfl, rfl, rfl⟩ := he
  have hl63 : l ≤ 9223372036854775807 := by unfold maxLen at hcm; omega
  have HXL := Lib.hid hxl; clear hxl
  rcases hcase with ⟨hlong, hts⟩ | ⟨tss, hle, htl, hts, hel⟩
  · have HT := Lib.hid hts; clear hts
    go_enter Try.func96, Try.ntmps96
    go_wp2_with fail
    have hf := firstF_long hlong
    exact ⟨rfl, HT.out ▸ ⟨Keeps.refl, .inr ⟨by rw [hf]; decide, by rw [hf]; rfl⟩⟩⟩
  · have hts : ts = [.many l] ++ tss.flatten := hts
    have R0 : Room xs ([.many l] ++ tss.flatten) := hts ▸ hroom
    have HT := Lib.hid hts; clear hts
    have HTL := Lib.hid htl; clear htl
    have fm : firstF [.many l] = 0 := firstF_cons (fault_many hle)
    have bm : bytesL [.num (l : Int)] = bytesL [.many l] := by simp [bytesL, Tok.bytes]
    have FM := Lib.hid fm; clear fm
    have BM := Lib.hid bm; clear bm
    go_enter Try.func96, Try.ntmps96
    go_wp2_with fail
    refine (w_number p S _ _ _ hW (show Room xs [.num (l : Int)] from R0.left)).mono ?_
    rintro e w1 ⟨K1, ⟨F1, rfl, W1⟩ | ⟨F1, rfl⟩⟩
    case inr => exact absurd (firstF_cons (fault_num (by omega) (by omega))) F1
    rw [BM.out] at W1
    go_wp2_with fail
    have R1 := R0.right FM.out
    go_loopw [7, 18] (fun _ i wr => ∃ k : Nat, k ≤ l ∧ i = .int .i64 k ∧ Keeps S w wr ∧ firstF (tss.take k).flatten = 0 ∧ Wr wr S p ((xs ++ bytesL [.many l]) ++ bytesL (tss.take k).flatten)) (fun _ i _ => l - (intOf i).toNat)
    case atStart => exact ⟨0, Nat.zero_le _, rfl, K1, rfl, by simpa [bytesL] using W1⟩
    case round =>
      obtain ⟨k, hk, rfl, K2, F2, W2⟩ := hrel
      by_cases hlt : k < l
      · obtain ⟨x, hx⟩ : ∃ x, xss[k]? = some x := ⟨_, List.getElem?_eq_getElem (by rw [HXL.out]; exact hlt)⟩
        obtain ⟨t, ht⟩ : ∃ t, tss[k]? = some t := ⟨_, List.getElem?_eq_getElem (by rw [HTL.out]; exact hlt)⟩
        have hI := (hel k x t hx ht).keep (S' := S) (fun _ h => h) K2
        have hrdk := hrd.keep (S' := S) (fun _ h => h) K2
        have R2 : Room ((xs ++ bytesL [.many l]) ++ bytesL (tss.take k).flatten) t := by
          have := R1; rw [flatten_split ht] at this; exact (this.right F2).left
        have FS := Lib.hid (flatten_succ ht)
        have FP := Lib.hid (flatten_split ht)
        rcases hrdk with h0 | ⟨b, o, rfl, hSb, hcell⟩
        · have := HXL.out; rw [h0] at this; simp at this; omega
        have hc := hcell k x hx
        obtain ⟨s0, s1, rfl⟩ := cells_Schema hI
        have hc0 : wr.cell? ⟨b, o + k * 2, none⟩ = some (.string s0) := hc 0 _ rfl
        have hc1 : wr.cell? ⟨b, o + k * 2 + 1, none⟩ = some (.string s1) := hc 1 _ rfl
        have Hx := Lib.hid hx; clear hx
        have Ht := Lib.hid ht; clear ht
        clear hc hcell hrd hel
        have F2 := Lib.hid F2
        go_wp2_with fail
        refine (w_schema p S _ _ t _ (W2.alloc _) (hI.keep (fun _ h => h) (Keeps.refl.alloc _)) R2).mono ?_
        rintro e w3 ⟨K3, ⟨F3, rfl, W3⟩ | ⟨F3, rfl⟩⟩
        case inr => exact ⟨rfl, by rw [HT.out, FP.out]; exact WPost.step K2 FM.out (WPost.step Keeps.refl F2.out (WPost.stop ((Keeps.refl.alloc _).trans K3) F3 rfl))⟩
        have F3 := Lib.hid F3
        go_wp2_with fail
        go_roundw
        case rel => exact ⟨k + 1, by omega, by go_num, K2.trans ((Keeps.refl.alloc _).trans K3), by rw [FS.out]; exact firstF_zero.2 ⟨F2.out, F3.out⟩, by rw [FS.out, bytesL_append, ← List.append_assoc]; exact W3⟩
        case measure => simp [intOf]; omega
      · have hkl : k = l := by omega
        have FE := Lib.hid (show (tss.take k).flatten = tss.flatten by rw [List.take_of_length_le (by rw [HTL.out]; omega)])
        have F2 := Lib.hid F2
        clear hkl
        go_wp2_with fail
        go_end0
        have hF := F2.out
        rw [FE.out] at hF W2
        exact HT.out ▸ WPost.step K2 FM.out ⟨Keeps.refl, .inl ⟨hF, rfl, W2⟩⟩

set_option maxRecDepth 100000 in
set_option maxHeartbeats 2000000 in
theorem w_listMember (p : Nat) (S : Nat → Prop) (xs : List UInt8) (a : Option Addr) (l c : Nat) (ts : List Tok) (w : World) (hW : Wr w S p xs) (hI : Is w S (.list shMember) [.slice a l c] ts) (hroom : Room xs ts) :
    Calls Try.prog 101 #[.pointer (some ⟨p, 0, none⟩), .slice a l c, .func (.func 102) #[] #[]] w (WPost w S p xs ts) := by
  obtain ⟨a', l', c', xss, he, hlc, hcm, hxl, hrd, hcase⟩ := hI
  simp only [List.cons.injEq, Value.slice.injEq, and_true] at he
  obtain ⟨rfl, rfl, rfl⟩ := he
  have hl63 : l ≤ 9223372036854775807 := by unfold maxLen at hcm; omega
  have HXL := Lib.hid hxl; clear hxl
  rcases hcase with ⟨hlong, hts⟩ | ⟨tss, hle, htl, hts, hel⟩
  · have HT := Lib.hid hts; clear hts
    go_enter Try.func101, Try.ntmps101
    go_wp2_with fail
    have hf := firstF_long hlong
    exact ⟨rfl, HT.out ▸ ⟨Keeps.refl, .inr ⟨by rw [hf]; decide, by rw [hf]; rfl⟩⟩⟩
  · have hts : ts = [.many l] ++ tss.flatten := hts
    have R0 : Room xs ([.many l] ++ tss.flatten) := hts ▸ hroom
    have HT := Lib.hid hts; clear hts
    have HTL := Lib.hid htl; clear htl
    have fm : firstF [.many l] = 0 := firstF_cons (fault_many hle)
    have bm : bytesL [.num (l : Int)] = bytesL [.many l] := by simp [bytesL, Tok.bytes]
    have FM := Lib.hid fm; clear fm
    have BM := Lib.hid bm; clear bm
    go_enter Try.func101, Try.ntmps101
    go_wp2_with fail
    refine (w_number p S _ _ _ hW (show Room xs [.num (l : Int)] from R0.left)).mono ?_
    rintro e w1 ⟨K1, ⟨F1, rfl, W1⟩ | ⟨F1, rfl⟩⟩
    case inr => exact absurd (firstF_cons (fault_num (by omega) (by omega))) F1
    rw [BM.out] at W1
    go_wp2_with fail
    have R1 := R0.right FM.out
    go_loopw [7, 18] (fun _ i wr => ∃ k : Nat, k ≤ l ∧ i = .int .i64 k ∧ Keeps S w wr ∧ firstF (tss.take k).flatten = 0 ∧ Wr wr S p ((xs ++ bytesL [.many l]) ++ bytesL (tss.take k).flatten)) (fun _ i _ => l - (intOf i).toNat)
    case atStart => exact ⟨0, Nat.zero_le _, rfl, K1, rfl, by simpa [bytesL] using W1⟩
    case round =>
      obtain ⟨k, hk, rfl, K2, F2, W2⟩ := hrel
      by_cases hlt : k < l
      · obtain ⟨x, hx⟩ : ∃ x, xss[k]? = some x := ⟨_, List.getElem?_eq_getElem (by rw [HXL.out]; exact hlt)⟩
        obtain ⟨t, ht⟩ : ∃ t, tss[k]? = some t := ⟨_, List.getElem?_eq_getElem (by rw [HTL.out]; exact hlt)⟩
        have hI := (hel k x t hx ht).keep (S' := S) (fun _ h => h) K2
        have hrdk := hrd.keep (S' := S) (fun _ h => h) K2
        have R2 : Room ((xs ++ bytesL [.many l]) ++ bytesL (tss.take k).flatten) t := by
          have := R1; rw [flatten_split ht] at this; exact (this.right F2).left
        have FS := Lib.hid (flatten_succ ht)
        have FP := Lib.hid (flatten_split ht)
        rcases hrdk with h0 | ⟨b, o, rfl, hSb, hcell⟩
        · have := HXL.out; rw [h0] at this; simp at this; omega
        have hc := hcell k x hx
        obtain ⟨s0, s1, rfl⟩ := cells_Member hI
        have hc0 : wr.cell? ⟨b, o + k * 2, none⟩ = some (.string s0) := hc 0 _ rfl
        have hc1 : wr.cell? ⟨b, o + k * 2 + 1, none⟩ = some (.string s1) := hc 1 _ rfl
        have Hx := Lib.hid hx; clear hx
        have Ht := Lib.hid ht; clear ht
        clear hc hcell hrd hel
        have F2 := Lib.hid F2
        go_wp2_with fail
        refine (w_member p S _ _ t _ (W2.alloc _) (hI.keep (fun _ h => h) (Keeps.refl.alloc _)) R2).mono ?_
        rintro e w3 ⟨K3, ⟨F3, rfl, W3⟩ | ⟨F3, rfl⟩⟩
        case inr => exact ⟨rfl, by rw [HT.out, FP.out]; exact WPost.step K2 FM.out (WPost.step Keeps.refl F2.out (WPost.stop ((Keeps.refl.alloc _).trans K3) F3 rfl))⟩
        have F3 := Lib.hid F3
        go_wp2_with fail
        go_roundw
        case rel => exact ⟨k + 1, by omega, by go_num, K2.trans ((Keeps.refl.alloc _).trans K3), by rw [FS.out]; exact firstF_zero.2 ⟨F2.out, F3.out⟩, by rw [FS.out, bytesL_append, ← List.append_assoc]; exact W3⟩
        case measure => simp [intOf]; omega
      · have hkl : k = l := by omega
        have FE := Lib.hid (show (tss.take k).flatten = tss.flatten by rw [List.take_of_length_le (by rw [HTL.out]; omega)])
        have F2 := Lib.hid F2
        clear hkl
        go_wp2_with fail
        go_end0
        have hF := F2.out
        rw [FE.out] at hF W2
        exact HT.out ▸ WPost.step K2 FM.out ⟨Keeps.refl, .inl ⟨hF, rfl, W2⟩⟩

set_option maxRecDepth 100000 in
set_option maxHeartbeats 2000000 in
theorem w_listGrant (p : Nat) (S : Nat → Prop) (xs : List UInt8) (a : Option Addr) (l c : Nat) (ts : List Tok) (w : World) (hW : Wr w S p xs) (hI : Is w S (.list shGrant) [.slice a l c] ts) (hroom : Room xs ts) :
    Calls Try.prog 103 #[.pointer (some ⟨p, 0, none⟩), .slice a l c, .func (.func 104) #[] #[]] w (WPost w S p xs ts) := by
  obtain ⟨a', l', c', xss, he, hlc, hcm, hxl, hrd, hcase⟩ := hI
  simp only [List.cons.injEq, Value.slice.injEq, and_true] at he
  obtain ⟨rfl, rfl, rfl⟩ := he
  have hl63 : l ≤ 9223372036854775807 := by unfold maxLen at hcm; omega
  have HXL := Lib.hid hxl; clear hxl
  rcases hcase with ⟨hlong, hts⟩ | ⟨tss, hle, htl, hts, hel⟩
  · have HT := Lib.hid hts; clear hts
    go_enter Try.func103, Try.ntmps103
    go_wp2_with fail
    have hf := firstF_long hlong
    exact ⟨rfl, HT.out ▸ ⟨Keeps.refl, .inr ⟨by rw [hf]; decide, by rw [hf]; rfl⟩⟩⟩
  · have hts : ts = [.many l] ++ tss.flatten := hts
    have R0 : Room xs ([.many l] ++ tss.flatten) := hts ▸ hroom
    have HT := Lib.hid hts; clear hts
    have HTL := Lib.hid htl; clear htl
    have fm : firstF [.many l] = 0 := firstF_cons (fault_many hle)
    have bm : bytesL [.num (l : Int)] = bytesL [.many l] := by simp [bytesL, Tok.bytes]
    have FM := Lib.hid fm; clear fm
    have BM := Lib.hid bm; clear bm
    go_enter Try.func103, Try.ntmps103
    go_wp2_with fail
    refine (w_number p S _ _ _ hW (show Room xs [.num (l : Int)] from R0.left)).mono ?_
    rintro e w1 ⟨K1, ⟨F1, rfl, W1⟩ | ⟨F1, rfl⟩⟩
    case inr => exact absurd (firstF_cons (fault_num (by omega) (by omega))) F1
    rw [BM.out] at W1
    go_wp2_with fail
    have R1 := R0.right FM.out
    go_loopw [7, 18] (fun _ i wr => ∃ k : Nat, k ≤ l ∧ i = .int .i64 k ∧ Keeps S w wr ∧ firstF (tss.take k).flatten = 0 ∧ Wr wr S p ((xs ++ bytesL [.many l]) ++ bytesL (tss.take k).flatten)) (fun _ i _ => l - (intOf i).toNat)
    case atStart => exact ⟨0, Nat.zero_le _, rfl, K1, rfl, by simpa [bytesL] using W1⟩
    case round =>
      obtain ⟨k, hk, rfl, K2, F2, W2⟩ := hrel
      by_cases hlt : k < l
      · obtain ⟨x, hx⟩ : ∃ x, xss[k]? = some x := ⟨_, List.getElem?_eq_getElem (by rw [HXL.out]; exact hlt)⟩
        obtain ⟨t, ht⟩ : ∃ t, tss[k]? = some t := ⟨_, List.getElem?_eq_getElem (by rw [HTL.out]; exact hlt)⟩
        have hI := (hel k x t hx ht).keep (S' := S) (fun _ h => h) K2
        have hrdk := hrd.keep (S' := S) (fun _ h => h) K2
        have R2 : Room ((xs ++ bytesL [.many l]) ++ bytesL (tss.take k).flatten) t := by
          have := R1; rw [flatten_split ht] at this; exact (this.right F2).left
        have FS := Lib.hid (flatten_succ ht)
        have FP := Lib.hid (flatten_split ht)
        rcases hrdk with h0 | ⟨b, o, rfl, hSb, hcell⟩
        · have := HXL.out; rw [h0] at this; simp at this; omega
        have hc := hcell k x hx
        obtain ⟨s0, s1, n2, s3, s4, b5, rfl⟩ := cells_Grant hI
        have hc0 : wr.cell? ⟨b, o + k * 6, none⟩ = some (.string s0) := hc 0 _ rfl
        have hc1 : wr.cell? ⟨b, o + k * 6 + 1, none⟩ = some (.string s1) := hc 1 _ rfl
        have hc2 : wr.cell? ⟨b, o + k * 6 + 2, none⟩ = some (.int .i64 n2) := hc 2 _ rfl
        have hc3 : wr.cell? ⟨b, o + k * 6 + 3, none⟩ = some (.string s3) := hc 3 _ rfl
        have hc4 : wr.cell? ⟨b, o + k * 6 + 4, none⟩ = some (.string s4) := hc 4 _ rfl
        have hc5 : wr.cell? ⟨b, o + k * 6 + 5, none⟩ = some (.bool b5) := hc 5 _ rfl
        have Hx := Lib.hid hx; clear hx
        have Ht := Lib.hid ht; clear ht
        clear hc hcell hrd hel
        have F2 := Lib.hid F2
        go_wp2_with fail
        refine (w_grant p S _ _ t _ (W2.alloc _) (hI.keep (fun _ h => h) (Keeps.refl.alloc _)) R2).mono ?_
        rintro e w3 ⟨K3, ⟨F3, rfl, W3⟩ | ⟨F3, rfl⟩⟩
        case inr => exact ⟨rfl, by rw [HT.out, FP.out]; exact WPost.step K2 FM.out (WPost.step Keeps.refl F2.out (WPost.stop ((Keeps.refl.alloc _).trans K3) F3 rfl))⟩
        have F3 := Lib.hid F3
        go_wp2_with fail
        go_roundw
        case rel => exact ⟨k + 1, by omega, by go_num, K2.trans ((Keeps.refl.alloc _).trans K3), by rw [FS.out]; exact firstF_zero.2 ⟨F2.out, F3.out⟩, by rw [FS.out, bytesL_append, ← List.append_assoc]; exact W3⟩
        case measure => simp [intOf]; omega
      · have hkl : k = l := by omega
        have FE := Lib.hid (show (tss.take k).flatten = tss.flatten by rw [List.take_of_length_le (by rw [HTL.out]; omega)])
        have F2 := Lib.hid F2
        clear hkl
        go_wp2_with fail
        go_end0
        have hF := F2.out
        rw [FE.out] at hF W2
        exact HT.out ▸ WPost.step K2 FM.out ⟨Keeps.refl, .inl ⟨hF, rfl, W2⟩⟩

set_option maxRecDepth 100000 in
set_option maxHeartbeats 2000000 in
theorem w_listLease (p : Nat) (S : Nat → Prop) (xs : List UInt8) (a : Option Addr) (l c : Nat) (ts : List Tok) (w : World) (hW : Wr w S p xs) (hI : Is w S (.list shLease) [.slice a l c] ts) (hroom : Room xs ts) :
    Calls Try.prog 118 #[.pointer (some ⟨p, 0, none⟩), .slice a l c, .func (.func 119) #[] #[]] w (WPost w S p xs ts) := by
  obtain ⟨a', l', c', xss, he, hlc, hcm, hxl, hrd, hcase⟩ := hI
  simp only [List.cons.injEq, Value.slice.injEq, and_true] at he
  obtain ⟨rfl, rfl, rfl⟩ := he
  have hl63 : l ≤ 9223372036854775807 := by unfold maxLen at hcm; omega
  have HXL := Lib.hid hxl; clear hxl
  rcases hcase with ⟨hlong, hts⟩ | ⟨tss, hle, htl, hts, hel⟩
  · have HT := Lib.hid hts; clear hts
    go_enter Try.func118, Try.ntmps118
    go_wp2_with fail
    have hf := firstF_long hlong
    exact ⟨rfl, HT.out ▸ ⟨Keeps.refl, .inr ⟨by rw [hf]; decide, by rw [hf]; rfl⟩⟩⟩
  · have hts : ts = [.many l] ++ tss.flatten := hts
    have R0 : Room xs ([.many l] ++ tss.flatten) := hts ▸ hroom
    have HT := Lib.hid hts; clear hts
    have HTL := Lib.hid htl; clear htl
    have fm : firstF [.many l] = 0 := firstF_cons (fault_many hle)
    have bm : bytesL [.num (l : Int)] = bytesL [.many l] := by simp [bytesL, Tok.bytes]
    have FM := Lib.hid fm; clear fm
    have BM := Lib.hid bm; clear bm
    go_enter Try.func118, Try.ntmps118
    go_wp2_with fail
    refine (w_number p S _ _ _ hW (show Room xs [.num (l : Int)] from R0.left)).mono ?_
    rintro e w1 ⟨K1, ⟨F1, rfl, W1⟩ | ⟨F1, rfl⟩⟩
    case inr => exact absurd (firstF_cons (fault_num (by omega) (by omega))) F1
    rw [BM.out] at W1
    go_wp2_with fail
    have R1 := R0.right FM.out
    go_loopw [7, 18] (fun _ i wr => ∃ k : Nat, k ≤ l ∧ i = .int .i64 k ∧ Keeps S w wr ∧ firstF (tss.take k).flatten = 0 ∧ Wr wr S p ((xs ++ bytesL [.many l]) ++ bytesL (tss.take k).flatten)) (fun _ i _ => l - (intOf i).toNat)
    case atStart => exact ⟨0, Nat.zero_le _, rfl, K1, rfl, by simpa [bytesL] using W1⟩
    case round =>
      obtain ⟨k, hk, rfl, K2, F2, W2⟩ := hrel
      by_cases hlt : k < l
      · obtain ⟨x, hx⟩ : ∃ x, xss[k]? = some x := ⟨_, List.getElem?_eq_getElem (by rw [HXL.out]; exact hlt)⟩
        obtain ⟨t, ht⟩ : ∃ t, tss[k]? = some t := ⟨_, List.getElem?_eq_getElem (by rw [HTL.out]; exact hlt)⟩
        have hI := (hel k x t hx ht).keep (S' := S) (fun _ h => h) K2
        have hrdk := hrd.keep (S' := S) (fun _ h => h) K2
        have R2 : Room ((xs ++ bytesL [.many l]) ++ bytesL (tss.take k).flatten) t := by
          have := R1; rw [flatten_split ht] at this; exact (this.right F2).left
        have FS := Lib.hid (flatten_succ ht)
        have FP := Lib.hid (flatten_split ht)
        rcases hrdk with h0 | ⟨b, o, rfl, hSb, hcell⟩
        · have := HXL.out; rw [h0] at this; simp at this; omega
        have hc := hcell k x hx
        obtain ⟨n0, n1, n2, n3, rfl⟩ := cells_Lease hI
        have hc0 : wr.cell? ⟨b, o + k * 4, none⟩ = some (.int .i64 n0) := hc 0 _ rfl
        have hc1 : wr.cell? ⟨b, o + k * 4 + 1, none⟩ = some (.int .i64 n1) := hc 1 _ rfl
        have hc2 : wr.cell? ⟨b, o + k * 4 + 2, none⟩ = some (.int .i64 n2) := hc 2 _ rfl
        have hc3 : wr.cell? ⟨b, o + k * 4 + 3, none⟩ = some (.int .i64 n3) := hc 3 _ rfl
        have Hx := Lib.hid hx; clear hx
        have Ht := Lib.hid ht; clear ht
        clear hc hcell hrd hel
        have F2 := Lib.hid F2
        go_wp2_with fail
        refine (w_lease p S _ _ t _ (W2.alloc _) (hI.keep (fun _ h => h) (Keeps.refl.alloc _)) R2).mono ?_
        rintro e w3 ⟨K3, ⟨F3, rfl, W3⟩ | ⟨F3, rfl⟩⟩
        case inr => exact ⟨rfl, by rw [HT.out, FP.out]; exact WPost.step K2 FM.out (WPost.step Keeps.refl F2.out (WPost.stop ((Keeps.refl.alloc _).trans K3) F3 rfl))⟩
        have F3 := Lib.hid F3
        go_wp2_with fail
        go_roundw
        case rel => exact ⟨k + 1, by omega, by go_num, K2.trans ((Keeps.refl.alloc _).trans K3), by rw [FS.out]; exact firstF_zero.2 ⟨F2.out, F3.out⟩, by rw [FS.out, bytesL_append, ← List.append_assoc]; exact W3⟩
        case measure => simp [intOf]; omega
      · have hkl : k = l := by omega
        have FE := Lib.hid (show (tss.take k).flatten = tss.flatten by rw [List.take_of_length_le (by rw [HTL.out]; omega)])
        have F2 := Lib.hid F2
        clear hkl
        go_wp2_with fail
        go_end0
        have hF := F2.out
        rw [FE.out] at hF W2
        exact HT.out ▸ WPost.step K2 FM.out ⟨Keeps.refl, .inl ⟨hF, rfl, W2⟩⟩

set_option maxRecDepth 100000 in
set_option maxHeartbeats 2000000 in
theorem w_listDone (p : Nat) (S : Nat → Prop) (xs : List UInt8) (a : Option Addr) (l c : Nat) (ts : List Tok) (w : World) (hW : Wr w S p xs) (hI : Is w S (.list shDone) [.slice a l c] ts) (hroom : Room xs ts) :
    Calls Try.prog 116 #[.pointer (some ⟨p, 0, none⟩), .slice a l c, .func (.func 117) #[] #[]] w (WPost w S p xs ts) := by
  obtain ⟨a', l', c', xss, he, hlc, hcm, hxl, hrd, hcase⟩ := hI
  simp only [List.cons.injEq, Value.slice.injEq, and_true] at he
  obtain ⟨rfl, rfl, rfl⟩ := he
  have hl63 : l ≤ 9223372036854775807 := by unfold maxLen at hcm; omega
  have HXL := Lib.hid hxl; clear hxl
  rcases hcase with ⟨hlong, hts⟩ | ⟨tss, hle, htl, hts, hel⟩
  · have HT := Lib.hid hts; clear hts
    go_enter Try.func116, Try.ntmps116
    go_wp2_with fail
    have hf := firstF_long hlong
    exact ⟨rfl, HT.out ▸ ⟨Keeps.refl, .inr ⟨by rw [hf]; decide, by rw [hf]; rfl⟩⟩⟩
  · have hts : ts = [.many l] ++ tss.flatten := hts
    have R0 : Room xs ([.many l] ++ tss.flatten) := hts ▸ hroom
    have HT := Lib.hid hts; clear hts
    have HTL := Lib.hid htl; clear htl
    have fm : firstF [.many l] = 0 := firstF_cons (fault_many hle)
    have bm : bytesL [.num (l : Int)] = bytesL [.many l] := by simp [bytesL, Tok.bytes]
    have FM := Lib.hid fm; clear fm
    have BM := Lib.hid bm; clear bm
    go_enter Try.func116, Try.ntmps116
    go_wp2_with fail
    refine (w_number p S _ _ _ hW (show Room xs [.num (l : Int)] from R0.left)).mono ?_
    rintro e w1 ⟨K1, ⟨F1, rfl, W1⟩ | ⟨F1, rfl⟩⟩
    case inr => exact absurd (firstF_cons (fault_num (by omega) (by omega))) F1
    rw [BM.out] at W1
    go_wp2_with fail
    have R1 := R0.right FM.out
    go_loopw [7, 18] (fun _ i wr => ∃ k : Nat, k ≤ l ∧ i = .int .i64 k ∧ Keeps S w wr ∧ firstF (tss.take k).flatten = 0 ∧ Wr wr S p ((xs ++ bytesL [.many l]) ++ bytesL (tss.take k).flatten)) (fun _ i _ => l - (intOf i).toNat)
    case atStart => exact ⟨0, Nat.zero_le _, rfl, K1, rfl, by simpa [bytesL] using W1⟩
    case round =>
      obtain ⟨k, hk, rfl, K2, F2, W2⟩ := hrel
      by_cases hlt : k < l
      · obtain ⟨x, hx⟩ : ∃ x, xss[k]? = some x := ⟨_, List.getElem?_eq_getElem (by rw [HXL.out]; exact hlt)⟩
        obtain ⟨t, ht⟩ : ∃ t, tss[k]? = some t := ⟨_, List.getElem?_eq_getElem (by rw [HTL.out]; exact hlt)⟩
        have hI := (hel k x t hx ht).keep (S' := S) (fun _ h => h) K2
        have hrdk := hrd.keep (S' := S) (fun _ h => h) K2
        have R2 : Room ((xs ++ bytesL [.many l]) ++ bytesL (tss.take k).flatten) t := by
          have := R1; rw [flatten_split ht] at this; exact (this.right F2).left
        have FS := Lib.hid (flatten_succ ht)
        have FP := Lib.hid (flatten_split ht)
        rcases hrdk with h0 | ⟨b, o, rfl, hSb, hcell⟩
        · have := HXL.out; rw [h0] at this; simp at this; omega
        have hc := hcell k x hx
        obtain ⟨n0, n1, n2, n3, n4, rfl⟩ := cells_Done hI
        have hc0 : wr.cell? ⟨b, o + k * 5, none⟩ = some (.int .i64 n0) := hc 0 _ rfl
        have hc1 : wr.cell? ⟨b, o + k * 5 + 1, none⟩ = some (.int .i64 n1) := hc 1 _ rfl
        have hc2 : wr.cell? ⟨b, o + k * 5 + 2, none⟩ = some (.int .i64 n2) := hc 2 _ rfl
        have hc3 : wr.cell? ⟨b, o + k * 5 + 3, none⟩ = some (.int .i64 n3) := hc 3 _ rfl
        have hc4 : wr.cell? ⟨b, o + k * 5 + 4, none⟩ = some (.int .i64 n4) := hc 4 _ rfl
        have Hx := Lib.hid hx; clear hx
        have Ht := Lib.hid ht; clear ht
        clear hc hcell hrd hel
        have F2 := Lib.hid F2
        go_wp2_with fail
        refine (w_done p S _ _ t _ (W2.alloc _) (hI.keep (fun _ h => h) (Keeps.refl.alloc _)) R2).mono ?_
        rintro e w3 ⟨K3, ⟨F3, rfl, W3⟩ | ⟨F3, rfl⟩⟩
        case inr => exact ⟨rfl, by rw [HT.out, FP.out]; exact WPost.step K2 FM.out (WPost.step Keeps.refl F2.out (WPost.stop ((Keeps.refl.alloc _).trans K3) F3 rfl))⟩
        have F3 := Lib.hid F3
        go_wp2_with fail
        go_roundw
        case rel => exact ⟨k + 1, by omega, by go_num, K2.trans ((Keeps.refl.alloc _).trans K3), by rw [FS.out]; exact firstF_zero.2 ⟨F2.out, F3.out⟩, by rw [FS.out, bytesL_append, ← List.append_assoc]; exact W3⟩
        case measure => simp [intOf]; omega
      · have hkl : k = l := by omega
        have FE := Lib.hid (show (tss.take k).flatten = tss.flatten by rw [List.take_of_length_le (by rw [HTL.out]; omega)])
        have F2 := Lib.hid F2
        clear hkl
        go_wp2_with fail
        go_end0
        have hF := F2.out
        rw [FE.out] at hF W2
        exact HT.out ▸ WPost.step K2 FM.out ⟨Keeps.refl, .inl ⟨hF, rfl, W2⟩⟩

set_option maxRecDepth 100000 in
set_option maxHeartbeats 2000000 in
theorem w_table (p : Nat) (S : Nat → Prop) (xs : List UInt8) (cs : List Value) (ts : List Tok) (w : World) (hW : Wr w S p xs) (hI : Is w S shTable cs ts) (hroom : Room xs ts) :
    Calls Try.prog 99 #[.pointer (some ⟨p, 0, none⟩), .agg cs.toArray] w (WPost w S p xs ts) := by
  obtain ⟨s0, s1, s2, a3, l3, c3, a4, l4, c4, t3, t4, rfl, hts, hs0, hs1, hs2, I3, I4⟩ := open_Table hI
  have R0 : Room xs ([Tok.text s0.data.toList] ++ ([Tok.text s1.data.toList] ++ ([Tok.text s2.data.toList] ++ (t3 ++ t4)))) := hts ▸ hroom
  have HT := Lib.hid hts; clear hts
  have W0 := hW.boxed (.cells #[.string s0, .string s1, .string s2, .slice a3 l3 c3, .slice a4 l4 c4] 170)
  have G0 : Keeps S w (w.alloc (.cells #[.string s0, .string s1, .string s2, .slice a3 l3 c3, .slice a4 l4 c4] 170)) := Keeps.refl.alloc _
  have H0 := Lib.hid (heap_alloc_new w (.cells #[.string s0, .string s1, .string s2, .slice a3 l3 c3, .slice a4 l4 c4] 170))
  go_enter Try.func99, Try.ntmps99
  go_wp2_with fail
  refine (w_text p (Also S w.heap.size) _ s0 _ hs0 W0 R0.left).mono ?_
  rintro e w1 ⟨K1, ⟨F1, rfl, W1⟩ | ⟨F1, rfl⟩⟩
  case inr => exact ⟨rfl, HT.out ▸ WPost.boxed (WPost.stop K1 F1 rfl)⟩
  have R1 := R0.right F1
  have G1 := G0.trans K1.out
  have H1 := Lib.hid (K1.row H0.out Also.new)
  have c1_0 := box_cell H1.out 1 rfl
  have F1 := Lib.hid F1
  go_wp2_with fail
  clear c1_0
  refine (w_text p (Also S w.heap.size) _ s1 _ hs1 W1 R1.left).mono ?_
  rintro e w2 ⟨K2, ⟨F2, rfl, W2⟩ | ⟨F2, rfl⟩⟩
  case inr => exact ⟨rfl, HT.out ▸ WPost.boxed (WPost.step K1 F1.out (WPost.stop K2 F2 rfl))⟩
  have R2 := R1.right F2
  have G2 := G1.trans K2.out
  have H2 := Lib.hid (K2.row H1.out Also.new)
  have c2_0 := box_cell H2.out 2 rfl
  have F2 := Lib.hid F2
  go_wp2_with fail
  clear c2_0
  refine (w_text p (Also S w.heap.size) _ s2 _ hs2 W2 R2.left).mono ?_
  rintro e w3 ⟨K3, ⟨F3, rfl, W3⟩ | ⟨F3, rfl⟩⟩
  case inr => exact ⟨rfl, HT.out ▸ WPost.boxed (WPost.step K1 F1.out (WPost.step K2 F2.out (WPost.stop K3 F3 rfl)))⟩
  have R3 := R2.right F3
  have G3 := G2.trans K3.out
  have H3 := Lib.hid (K3.row H2.out Also.new)
  have c3_0 := box_cell H3.out 3 rfl
  have F3 := Lib.hid F3
  go_wp2_with fail
  clear c3_0
  refine (w_listColumn p (Also S w.heap.size) _ a3 l3 c3 _ _ W3 (I3.keep (fun _ => .inl) G3) R3.left).mono ?_
  rintro e w4 ⟨K4, ⟨F4, rfl, W4⟩ | ⟨F4, rfl⟩⟩
  case inr => exact ⟨rfl, HT.out ▸ WPost.boxed (WPost.step K1 F1.out (WPost.step K2 F2.out (WPost.step K3 F3.out (WPost.stop K4 F4 rfl))))⟩
  have R4 := R3.right F4
  have G4 := G3.trans K4.out
  have H4 := Lib.hid (K4.row H3.out Also.new)
  have c4_0 := box_cell H4.out 4 rfl
  have F4 := Lib.hid F4
  go_wp2_with fail
  clear c4_0
  refine (w_listRule p (Also S w.heap.size) _ a4 l4 c4 _ _ W4 (I4.keep (fun _ => .inl) G4) R4).mono ?_
  rintro e w5 ⟨K5, ⟨F5, rfl, W5⟩ | ⟨F5, rfl⟩⟩
  case inr => exact ⟨rfl, HT.out ▸ WPost.boxed (WPost.step K1 F1.out (WPost.step K2 F2.out (WPost.step K3 F3.out (WPost.step K4 F4.out ⟨K5, .inr ⟨F5, rfl⟩⟩))))⟩
  have F5 := Lib.hid F5
  go_wp2_with fail
  go_end0
  exact HT.out ▸ WPost.boxed (WPost.step K1 F1.out (WPost.step K2 F2.out (WPost.step K3 F3.out (WPost.step K4 F4.out ⟨K5, .inl ⟨F5.out, rfl, W5⟩⟩))))

set_option maxRecDepth 100000 in
set_option maxHeartbeats 2000000 in
theorem w_listTable (p : Nat) (S : Nat → Prop) (xs : List UInt8) (a : Option Addr) (l c : Nat) (ts : List Tok) (w : World) (hW : Wr w S p xs) (hI : Is w S (.list shTable) [.slice a l c] ts) (hroom : Room xs ts) :
    Calls Try.prog 98 #[.pointer (some ⟨p, 0, none⟩), .slice a l c, .func (.func 99) #[] #[]] w (WPost w S p xs ts) := by
  obtain ⟨a', l', c', xss, he, hlc, hcm, hxl, hrd, hcase⟩ := hI
  simp only [List.cons.injEq, Value.slice.injEq, and_true] at he
  obtain ⟨rfl, rfl, rfl⟩ := he
  have hl63 : l ≤ 9223372036854775807 := by unfold maxLen at hcm; omega
  have HXL := Lib.hid hxl; clear hxl
  rcases hcase with ⟨hlong, hts⟩ | ⟨tss, hle, htl, hts, hel⟩
  · have HT := Lib.hid hts; clear hts
    go_enter Try.func98, Try.ntmps98
    go_wp2_with fail
    have hf := firstF_long hlong
    exact ⟨rfl, HT.out ▸ ⟨Keeps.refl, .inr ⟨by rw [hf]; decide, by rw [hf]; rfl⟩⟩⟩
  · have hts : ts = [.many l] ++ tss.flatten := hts
    have R0 : Room xs ([.many l] ++ tss.flatten) := hts ▸ hroom
    have HT := Lib.hid hts; clear hts
    have HTL := Lib.hid htl; clear htl
    have fm : firstF [.many l] = 0 := firstF_cons (fault_many hle)
    have bm : bytesL [.num (l : Int)] = bytesL [.many l] := by simp [bytesL, Tok.bytes]
    have FM := Lib.hid fm; clear fm
    have BM := Lib.hid bm; clear bm
    go_enter Try.func98, Try.ntmps98
    go_wp2_with fail
    refine (w_number p S _ _ _ hW (show Room xs [.num (l : Int)] from R0.left)).mono ?_
    rintro e w1 ⟨K1, ⟨F1, rfl, W1⟩ | ⟨F1, rfl⟩⟩
    case inr => exact absurd (firstF_cons (fault_num (by omega) (by omega))) F1
    rw [BM.out] at W1
    go_wp2_with fail
    have R1 := R0.right FM.out
    go_loopw [7, 18] (fun _ i wr => ∃ k : Nat, k ≤ l ∧ i = .int .i64 k ∧ Keeps S w wr ∧ firstF (tss.take k).flatten = 0 ∧ Wr wr S p ((xs ++ bytesL [.many l]) ++ bytesL (tss.take k).flatten)) (fun _ i _ => l - (intOf i).toNat)
    case atStart => exact ⟨0, Nat.zero_le _, rfl, K1, rfl, by simpa [bytesL] using W1⟩
    case round =>
      obtain ⟨k, hk, rfl, K2, F2, W2⟩ := hrel
      by_cases hlt : k < l
      · obtain ⟨x, hx⟩ : ∃ x, xss[k]? = some x := ⟨_, List.getElem?_eq_getElem (by rw [HXL.out]; exact hlt)⟩
        obtain ⟨t, ht⟩ : ∃ t, tss[k]? = some t := ⟨_, List.getElem?_eq_getElem (by rw [HTL.out]; exact hlt)⟩
        have hI := (hel k x t hx ht).keep (S' := S) (fun _ h => h) K2
        have hrdk := hrd.keep (S' := S) (fun _ h => h) K2
        have R2 : Room ((xs ++ bytesL [.many l]) ++ bytesL (tss.take k).flatten) t := by
          have := R1; rw [flatten_split ht] at this; exact (this.right F2).left
        have FS := Lib.hid (flatten_succ ht)
        have FP := Lib.hid (flatten_split ht)
        rcases hrdk with h0 | ⟨b, o, rfl, hSb, hcell⟩
        · have := HXL.out; rw [h0] at this; simp at this; omega
        have hc := hcell k x hx
        obtain ⟨s0, s1, s2, a3, l3, c3, a4, l4, c4, rfl⟩ := cells_Table hI
        have hc0 : wr.cell? ⟨b, o + k * 5, none⟩ = some (.string s0) := hc 0 _ rfl
        have hc1 : wr.cell? ⟨b, o + k * 5 + 1, none⟩ = some (.string s1) := hc 1 _ rfl
        have hc2 : wr.cell? ⟨b, o + k * 5 + 2, none⟩ = some (.string s2) := hc 2 _ rfl
        have hc3 : wr.cell? ⟨b, o + k * 5 + 3, none⟩ = some (.slice a3 l3 c3) := hc 3 _ rfl
        have hc4 : wr.cell? ⟨b, o + k * 5 + 4, none⟩ = some (.slice a4 l4 c4) := hc 4 _ rfl
        have Hx := Lib.hid hx; clear hx
        have Ht := Lib.hid ht; clear ht
        clear hc hcell hrd hel
        have F2 := Lib.hid F2
        go_wp2_with fail
        refine (w_table p S _ _ t _ (W2.alloc _) (hI.keep (fun _ h => h) (Keeps.refl.alloc _)) R2).mono ?_
        rintro e w3 ⟨K3, ⟨F3, rfl, W3⟩ | ⟨F3, rfl⟩⟩
        case inr => exact ⟨rfl, by rw [HT.out, FP.out]; exact WPost.step K2 FM.out (WPost.step Keeps.refl F2.out (WPost.stop ((Keeps.refl.alloc _).trans K3) F3 rfl))⟩
        have F3 := Lib.hid F3
        go_wp2_with fail
        go_roundw
        case rel => exact ⟨k + 1, by omega, by go_num, K2.trans ((Keeps.refl.alloc _).trans K3), by rw [FS.out]; exact firstF_zero.2 ⟨F2.out, F3.out⟩, by rw [FS.out, bytesL_append, ← List.append_assoc]; exact W3⟩
        case measure => simp [intOf]; omega
      · have hkl : k = l := by omega
        have FE := Lib.hid (show (tss.take k).flatten = tss.flatten by rw [List.take_of_length_le (by rw [HTL.out]; omega)])
        have F2 := Lib.hid F2
        clear hkl
        go_wp2_with fail
        go_end0
        have hF := F2.out
        rw [FE.out] at hF W2
        exact HT.out ▸ WPost.step K2 FM.out ⟨Keeps.refl, .inl ⟨hF, rfl, W2⟩⟩

set_option maxRecDepth 100000 in
set_option maxHeartbeats 2000000 in
theorem w_catalog (p : Nat) (S : Nat → Prop) (xs : List UInt8) (cs : List Value) (ts : List Tok) (w : World) (hW : Wr w S p xs) (hI : Is w S shCatalog cs ts) (hroom : Room xs ts) :
    Calls Try.prog 45 #[.pointer (some ⟨p, 0, none⟩), .agg cs.toArray] w (WPost w S p xs ts) := by
  obtain ⟨n0, n1, a2, l2, c2, a3, l3, c3, a4, l4, c4, a5, l5, c5, a6, l6, c6, t2, t3, t4, t5, t6, rfl, hts, lo0, hi0, lo1, hi1, I2, I3, I4, I5, I6⟩ := open_Catalog hI
  have R0 : Room xs ([Tok.num n0] ++ ([Tok.num n1] ++ (t2 ++ (t3 ++ (t4 ++ (t5 ++ t6)))))) := hts ▸ hroom
  have HT := Lib.hid hts; clear hts
  have W0 := hW.boxed (.cells #[.int .i64 n0, .int .i64 n1, .slice a2 l2 c2, .slice a3 l3 c3, .slice a4 l4 c4, .slice a5 l5 c5, .slice a6 l6 c6] 51)
  have G0 : Keeps S w (w.alloc (.cells #[.int .i64 n0, .int .i64 n1, .slice a2 l2 c2, .slice a3 l3 c3, .slice a4 l4 c4, .slice a5 l5 c5, .slice a6 l6 c6] 51)) := Keeps.refl.alloc _
  have H0 := Lib.hid (heap_alloc_new w (.cells #[.int .i64 n0, .int .i64 n1, .slice a2 l2 c2, .slice a3 l3 c3, .slice a4 l4 c4, .slice a5 l5 c5, .slice a6 l6 c6] 51))
  go_enter Try.func45, Try.ntmps45
  go_wp2_with fail
  refine (w_number p (Also S w.heap.size) _ n0 _ W0 R0.left).mono ?_
  rintro e w1 ⟨K1, ⟨F1, rfl, W1⟩ | ⟨F1, rfl⟩⟩
  case inr => exact ⟨rfl, HT.out ▸ WPost.boxed (WPost.stop K1 F1 rfl)⟩
  have R1 := R0.right F1
  have G1 := G0.trans K1.out
  have H1 := Lib.hid (K1.row H0.out Also.new)
  have c1_0 := box_cell H1.out 1 rfl
  have F1 := Lib.hid F1
  go_wp2_with fail
  clear c1_0
  refine (w_number p (Also S w.heap.size) _ n1 _ W1 R1.left).mono ?_
  rintro e w2 ⟨K2, ⟨F2, rfl, W2⟩ | ⟨F2, rfl⟩⟩
  case inr => exact ⟨rfl, HT.out ▸ WPost.boxed (WPost.step K1 F1.out (WPost.stop K2 F2 rfl))⟩
  have R2 := R1.right F2
  have G2 := G1.trans K2.out
  have H2 := Lib.hid (K2.row H1.out Also.new)
  have c2_0 := box_cell H2.out 2 rfl
  have F2 := Lib.hid F2
  go_wp2_with fail
  clear c2_0
  refine (w_listSchema p (Also S w.heap.size) _ a2 l2 c2 _ _ W2 (I2.keep (fun _ => .inl) G2) R2.left).mono ?_
  rintro e w3 ⟨K3, ⟨F3, rfl, W3⟩ | ⟨F3, rfl⟩⟩
  case inr => exact ⟨rfl, HT.out ▸ WPost.boxed (WPost.step K1 F1.out (WPost.step K2 F2.out (WPost.stop K3 F3 rfl)))⟩
  have R3 := R2.right F3
  have G3 := G2.trans K3.out
  have H3 := Lib.hid (K3.row H2.out Also.new)
  have c3_0 := box_cell H3.out 3 rfl
  have F3 := Lib.hid F3
  go_wp2_with fail
  clear c3_0
  refine (w_listTable p (Also S w.heap.size) _ a3 l3 c3 _ _ W3 (I3.keep (fun _ => .inl) G3) R3.left).mono ?_
  rintro e w4 ⟨K4, ⟨F4, rfl, W4⟩ | ⟨F4, rfl⟩⟩
  case inr => exact ⟨rfl, HT.out ▸ WPost.boxed (WPost.step K1 F1.out (WPost.step K2 F2.out (WPost.step K3 F3.out (WPost.stop K4 F4 rfl))))⟩
  have R4 := R3.right F4
  have G4 := G3.trans K4.out
  have H4 := Lib.hid (K4.row H3.out Also.new)
  have c4_0 := box_cell H4.out 4 rfl
  have F4 := Lib.hid F4
  go_wp2_with fail
  clear c4_0
  refine (w_listText p (Also S w.heap.size) _ a4 l4 c4 _ _ W4 (I4.keep (fun _ => .inl) G4) R4.left).mono ?_
  rintro e w5 ⟨K5, ⟨F5, rfl, W5⟩ | ⟨F5, rfl⟩⟩
  case inr => exact ⟨rfl, HT.out ▸ WPost.boxed (WPost.step K1 F1.out (WPost.step K2 F2.out (WPost.step K3 F3.out (WPost.step K4 F4.out (WPost.stop K5 F5 rfl)))))⟩
  have R5 := R4.right F5
  have G5 := G4.trans K5.out
  have H5 := Lib.hid (K5.row H4.out Also.new)
  have c5_0 := box_cell H5.out 5 rfl
  have F5 := Lib.hid F5
  go_wp2_with fail
  clear c5_0
  refine (w_listMember p (Also S w.heap.size) _ a5 l5 c5 _ _ W5 (I5.keep (fun _ => .inl) G5) R5.left).mono ?_
  rintro e w6 ⟨K6, ⟨F6, rfl, W6⟩ | ⟨F6, rfl⟩⟩
  case inr => exact ⟨rfl, HT.out ▸ WPost.boxed (WPost.step K1 F1.out (WPost.step K2 F2.out (WPost.step K3 F3.out (WPost.step K4 F4.out (WPost.step K5 F5.out (WPost.stop K6 F6 rfl))))))⟩
  have R6 := R5.right F6
  have G6 := G5.trans K6.out
  have H6 := Lib.hid (K6.row H5.out Also.new)
  have c6_0 := box_cell H6.out 6 rfl
  have F6 := Lib.hid F6
  go_wp2_with fail
  clear c6_0
  refine (w_listGrant p (Also S w.heap.size) _ a6 l6 c6 _ _ W6 (I6.keep (fun _ => .inl) G6) R6).mono ?_
  rintro e w7 ⟨K7, ⟨F7, rfl, W7⟩ | ⟨F7, rfl⟩⟩
  case inr => exact ⟨rfl, HT.out ▸ WPost.boxed (WPost.step K1 F1.out (WPost.step K2 F2.out (WPost.step K3 F3.out (WPost.step K4 F4.out (WPost.step K5 F5.out (WPost.step K6 F6.out ⟨K7, .inr ⟨F7, rfl⟩⟩))))))⟩
  have F7 := Lib.hid F7
  go_wp2_with fail
  go_end0
  exact HT.out ▸ WPost.boxed (WPost.step K1 F1.out (WPost.step K2 F2.out (WPost.step K3 F3.out (WPost.step K4 F4.out (WPost.step K5 F5.out (WPost.step K6 F6.out ⟨K7, .inl ⟨F7.out, rfl, W7⟩⟩))))))

set_option maxRecDepth 100000 in
set_option maxHeartbeats 2000000 in
theorem w_machine (p : Nat) (S : Nat → Prop) (xs : List UInt8) (cs : List Value) (ts : List Tok) (w : World) (hW : Wr w S p xs) (hI : Is w S shMachine cs ts) (hroom : Room xs ts) :
    Calls Try.prog 60 #[.pointer (some ⟨p, 0, none⟩), .agg cs.toArray] w (WPost w S p xs ts) := by
  obtain ⟨n0_0, n0_1, a0_2, l0_2, c0_2, a0_3, l0_3, c0_3, a0_4, l0_4, c0_4, a0_5, l0_5, c0_5, a0_6, l0_6, c0_6, a1, l1, c1, a2, l2, c2, n3, t0, t1, t2, rfl, hts, I0, I1, I2, lo3, hi3⟩ := open_Machine hI
  have R0 : Room xs (t0 ++ (t1 ++ (t2 ++ [Tok.num n3]))) := hts ▸ hroom
  have HT := Lib.hid hts; clear hts
  have W0 := hW.boxed (.cells #[.int .i64 n0_0, .int .i64 n0_1, .slice a0_2 l0_2 c0_2, .slice a0_3 l0_3 c0_3, .slice a0_4 l0_4 c0_4, .slice a0_5 l0_5 c0_5, .slice a0_6 l0_6 c0_6, .slice a1 l1 c1, .slice a2 l2 c2, .int .i64 n3] 80)
  have G0 : Keeps S w (w.alloc (.cells #[.int .i64 n0_0, .int .i64 n0_1, .slice a0_2 l0_2 c0_2, .slice a0_3 l0_3 c0_3, .slice a0_4 l0_4 c0_4, .slice a0_5 l0_5 c0_5, .slice a0_6 l0_6 c0_6, .slice a1 l1 c1, .slice a2 l2 c2, .int .i64 n3] 80)) := Keeps.refl.alloc _
  have H0 := Lib.hid (heap_alloc_new w (.cells #[.int .i64 n0_0, .int .i64 n0_1, .slice a0_2 l0_2 c0_2, .slice a0_3 l0_3 c0_3, .slice a0_4 l0_4 c0_4, .slice a0_5 l0_5 c0_5, .slice a0_6 l0_6 c0_6, .slice a1 l1 c1, .slice a2 l2 c2, .int .i64 n3] 80))
  go_enter Try.func60, Try.ntmps60
  go_wp2_with fail
  refine (w_catalog p (Also S w.heap.size) _ _ _ _ W0 (I0.keep (fun _ => .inl) G0) R0.left).mono ?_
  rintro e w1 ⟨K1, ⟨F1, rfl, W1⟩ | ⟨F1, rfl⟩⟩
  case inr => exact ⟨rfl, HT.out ▸ WPost.boxed (WPost.stop K1 F1 rfl)⟩
  have R1 := R0.right F1
  have G1 := G0.trans K1.out
  have H1 := Lib.hid (K1.row H0.out Also.new)
  have c1_0 := box_cell H1.out 7 rfl
  have F1 := Lib.hid F1
  go_wp2_with fail
  clear c1_0
  refine (w_listDone p (Also S w.heap.size) _ a1 l1 c1 _ _ W1 (I1.keep (fun _ => .inl) G1) R1.left).mono ?_
  rintro e w2 ⟨K2, ⟨F2, rfl, W2⟩ | ⟨F2, rfl⟩⟩
  case inr => exact ⟨rfl, HT.out ▸ WPost.boxed (WPost.step K1 F1.out (WPost.stop K2 F2 rfl))⟩
  have R2 := R1.right F2
  have G2 := G1.trans K2.out
  have H2 := Lib.hid (K2.row H1.out Also.new)
  have c2_0 := box_cell H2.out 8 rfl
  have F2 := Lib.hid F2
  go_wp2_with fail
  clear c2_0
  refine (w_listLease p (Also S w.heap.size) _ a2 l2 c2 _ _ W2 (I2.keep (fun _ => .inl) G2) R2.left).mono ?_
  rintro e w3 ⟨K3, ⟨F3, rfl, W3⟩ | ⟨F3, rfl⟩⟩
  case inr => exact ⟨rfl, HT.out ▸ WPost.boxed (WPost.step K1 F1.out (WPost.step K2 F2.out (WPost.stop K3 F3 rfl)))⟩
  have R3 := R2.right F3
  have G3 := G2.trans K3.out
  have H3 := Lib.hid (K3.row H2.out Also.new)
  have c3_0 := box_cell H3.out 9 rfl
  have F3 := Lib.hid F3
  go_wp2_with fail
  clear c3_0
  refine (w_number p (Also S w.heap.size) _ n3 _ W3 R3).mono ?_
  rintro e w4 ⟨K4, ⟨F4, rfl, W4⟩ | ⟨F4, rfl⟩⟩
  case inr => exact ⟨rfl, HT.out ▸ WPost.boxed (WPost.step K1 F1.out (WPost.step K2 F2.out (WPost.step K3 F3.out ⟨K4, .inr ⟨F4, rfl⟩⟩)))⟩
  have F4 := Lib.hid F4
  go_wp2_with fail
  go_end0
  exact HT.out ▸ WPost.boxed (WPost.step K1 F1.out (WPost.step K2 F2.out (WPost.step K3 F3.out ⟨K4, .inl ⟨F4.out, rfl, W4⟩⟩)))

end Go.Proofs.Ytbhpbiimfcdgaaa
