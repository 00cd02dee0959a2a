/-
  The program's reader, by contract: its fields (refuse, end, cut, number, whole, count, text, truth).
-/
import Derived.Test.YtbhpbiimfcdgaaaGreatWireD
import Derived.Test.YtbhpbiimfcdgaaaGreatCodecR
import Derived.Lib.SliceRun
import Derived.IntWalk
namespace Go.Proofs.YtbhpbiimfcdgaaaGreat
open Go.RowKit
set_option linter.unusedVariables false
variable {B : Nat}

/-- All blocks but p. -/
def Off (p k : Nat) : Prop := k ≠ p
/-- Block p is the reader: 'bs' are left; they lie in other blocks. -/
def Re (w : World) (p B : Nat) (bs : List UInt8) : Prop :=
  B ≤ p ∧ ∃ a cap, w.heap[p]? = some (.cells #[.slice a bs.length cap] 94 (0, 0)) ∧ RdS w (· < B) a (cb bs) ∧ bs.length ≤ cap ∧ cap ≤ maxLen

section
variable {w w' : World} {p : Nat} {bs : List UInt8}
theorem Re.lt (h : Re w p B bs) : p < w.heap.size := by
  obtain ⟨_, a, cap, hh, _⟩ := h
  exact lt_of_block hh
theorem Re.keep (h : Re w p B bs) {S : Nat → Prop} (hk : Keeps S w w') (hS : ∀ k, S k) : Re w' p B bs := by
  obtain ⟨hBp, a, cap, hh, hr, hc, hm⟩ := h
  exact ⟨hBp, a, cap, hk.row hh (hS p), hr.kept (fun _ h => h) (hk.mono fun _ _ => hS _), hc, hm⟩
theorem Re.below (h : Re w p B bs) (hb : Below w.heap.size w w') : Re w' p B bs := by
  have hp := h.lt
  obtain ⟨hBp, a, cap, hh, hr, hc, hm⟩ := h
  refine ⟨hBp, a, cap, (hb.block p hp).trans hh, ?_, hc, hm⟩
  rcases hr with h | ⟨b, o, ha, hb', hcell⟩
  · exact .inl h
  · exact .inr ⟨b, o, ha, hb', fun i hi => (hb.cell (World.block_lt_of_cell? w _ (hcell i hi))).trans (hcell i hi)⟩
theorem Re.setRow (h : Re w p B bs) {g : Nat} (hg : p < g) (c : Array Value) : Re (w.setRow g c) p B bs := by
  obtain ⟨hBp, a, cap, hh, hr, hc, hm⟩ := h
  have hk : Keeps (· < g) w (w.setRow g c) := ⟨rfl, rfl, rfl, by simp, fun k _ hk => setRow_other w g k c (by omega)⟩
  exact ⟨hBp, a, cap, hk.row hh hg, hr.kept (fun _ h => h) (hk.mono fun k h => by omega), hc, hm⟩
theorem Re.kept (h : Re w p B bs) {S : Nat → Prop} (hk : Keeps S w w') (hp : S p) (hS : ∀ k, k < B → S k) : Re w' p B bs := by
  obtain ⟨hBp, a, cap, hh, hr, hc, hm⟩ := h
  exact ⟨hBp, a, cap, hk.row hh hp, hr.kept (fun _ h => h) (hk.mono hS), hc, hm⟩
theorem Re.alloc (h : Re w p B bs) (o : Obj) : Re (w.alloc o) p B bs := h.below ((Below.refl _ _).alloc (Nat.le_refl _) o)
theorem Re.stored (h : Re w p B bs) {bs' : List UInt8} {a' : Option Addr} {n' cap' : Nat} (hrd : RdS w (· < B) a' (cb bs')) (hn : bs'.length = n') (hc : n' ≤ cap') (hm : cap' ≤ maxLen) :
    Re (w.setCell ⟨p, 0, none⟩ (.slice a' n' cap')) p B bs' ∧ Keeps (Off p) w (w.setCell ⟨p, 0, none⟩ (.slice a' n' cap')) := by
  obtain ⟨hBp, a, cap, hh, _, _, _⟩ := h
  subst hn
  have hk : Keeps (Off p) w (w.setCell ⟨p, 0, none⟩ (.slice a' bs'.length cap')) := Keeps.refl.setCell (p := ⟨p, 0, none⟩) (fun h => h rfl) _
  refine ⟨⟨hBp, a', cap', ?_, hrd.kept (fun _ h => h) (hk.mono fun k h => by unfold Off; omega), hc, hm⟩, hk⟩
  have := heap_setCell_same w p 0 _ _ (.slice a' bs'.length cap') hh
  simpa using this
end

theorem RdS.drop' {w : World} {S : Nat → Prop} {b o : Nat} {xs : List Value} (h : RdS w S (some ⟨b, o, none⟩) xs) (k : Nat) : RdS w S (some ⟨b, o + k, none⟩) (xs.drop k) := by
  rcases h with h | ⟨b', o', ha, hb, hc⟩
  · subst h; exact .inl (by simp)
  · simp only [Option.some.injEq, Addr.mk.injEq, and_true] at ha
    obtain ⟨rfl, rfl⟩ := ha
    refine .inr ⟨b, o + k, rfl, hb, fun i hi => ?_⟩
    have hi' : k + i < xs.length := by simp at hi; omega
    rw [Nat.add_assoc, hc (k + i) hi']; simp
theorem RdS.take' {w : World} {S : Nat → Prop} {a : Option Addr} {xs : List Value} (h : RdS w S a xs) (k : Nat) : RdS w S a (xs.take k) := by
  rcases h with h | ⟨b, o, ha, hb, hc⟩
  · subst h; exact .inl (by simp)
  · exact .inr ⟨b, o, ha, hb, fun i hi => by
      have hi' : i < xs.length := by simp at hi; omega
      rw [hc i hi']; simp⟩

theorem RdS.map_drop {w : World} {S : Nat → Prop} {a : Option Addr} {bs : List UInt8} (h : RdS w S a (cb bs)) (k : Nat) : RdS w S (Option.map (fun x => x.add k) a) (cb (bs.drop k)) := by
  rw [← cb_drop]
  rcases h with h | ⟨b, o, rfl, hb, hc⟩
  · rw [h]; exact .inl (by simp)
  · have e : Option.map (fun x : Addr => x.add k) (some ⟨b, o, none⟩) = some ⟨b, o + k, none⟩ := by simp [Addr.add_mid]
    rw [e]
    exact RdS.drop' (.inr ⟨b, o, rfl, hb, hc⟩) k

theorem refuse_any (v : Value) (w : World) : Calls Tryz.prog 67 #[v] w fun e w' => e = died 11 ∧ w = w' := by
  go_enter Tryz.func67, Tryz.ntmps67
  go_wp2_with fail
  exact ⟨rfl, rfl, rfl⟩

theorem end_some (p : Nat) (bs : List UInt8) (w : World) (h : Re w p B bs) (hl : 0 < bs.length) :
    Calls Tryz.prog 30 #[.pointer (some ⟨p, 0, none⟩)] w fun e w' => e = died 11 ∧ w = w' := by
  obtain ⟨hBp, a, cap, hh, hr, hc, hm⟩ := h
  have hcell : w.cell? ⟨p, 0, none⟩ = some (.slice a bs.length cap) := by simpa using cell_of_row w p 0 _ _ _ hh
  generalize bs.length = n at *
  unfold maxLen at hm
  clear hh hr
  go_enter Tryz.func30, Tryz.ntmps30
  go_wp2_with fail
  refine (refuse_any _ w).mono ?_
  rintro e w' ⟨rfl, rfl⟩
  exact ⟨rfl, rfl, rfl⟩
theorem end_none (p : Nat) (w : World) (h : Re w p B []) :
    Calls Tryz.prog 30 #[.pointer (some ⟨p, 0, none⟩)] w fun e w' => e = .returned (.tuple #[]) ∧ w = w' := by
  obtain ⟨hBp, a, cap, hh, hr, hc, hm⟩ := h
  have hcell : w.cell? ⟨p, 0, none⟩ = some (.slice a 0 cap) := by simpa using cell_of_row w p 0 _ _ _ hh
  clear hh hr
  go_enter Tryz.func30, Tryz.ntmps30
  go_wp2_with fail
  go_end0
  exact ⟨rfl, rfl⟩

set_option maxRecDepth 100000 in
theorem cut_short (p : Nat) (bs : List UInt8) (n : Nat) (w : World) (h : Re w p B bs) (hl : bs.length < n) :
    Calls Tryz.prog 69 #[.pointer (some ⟨p, 0, none⟩), .int .i64 (n : Int)] w fun e w' => e = died 11 ∧ w = w' := by
  obtain ⟨hBp, a, cap, hh, hr, hc, hm⟩ := h
  have hcell : w.cell? ⟨p, 0, none⟩ = some (.slice a bs.length cap) := by simpa using cell_of_row w p 0 _ _ _ hh
  generalize bs.length = m at *
  unfold maxLen at hm
  clear hh hr
  go_enter Tryz.func69, Tryz.ntmps69
  go_wp2_with fail
  refine (refuse_any _ w).mono ?_
  rintro e w' ⟨rfl, rfl⟩
  exact ⟨rfl, rfl, rfl⟩

def CutPost (w : World) (p B : Nat) (bs : List UInt8) (n : Nat) (e : Ending) (w' : World) : Prop :=
  ∃ a cap, e = .returned (.slice a n cap) ∧ RdS w' (· < B) a (cb (bs.take n)) ∧ Re w' p B (bs.drop n) ∧ Keeps (Off p) w w'

set_option maxRecDepth 100000 in
theorem cut_ok (p : Nat) (bs : List UInt8) (n : Nat) (w : World) (h : Re w p B bs) (hl : n ≤ bs.length) :
    Calls Tryz.prog 69 #[.pointer (some ⟨p, 0, none⟩), .int .i64 (n : Int)] w (CutPost w p B bs n) := by
  have hR := h
  obtain ⟨hBp, a, cap, hh, hr, hc, hm⟩ := h
  have hcell : w.cell? ⟨p, 0, none⟩ = some (.slice a bs.length cap) := by simpa using cell_of_row w p 0 _ _ _ hh
  have hfz : w.frozen? ⟨p, 0, none⟩ = false := frozen_of_row w p 0 _ _ hh
  have HM := Lib.hid hm
  unfold maxLen at hm
  generalize hb : bs.length = m at *
  have HB := Lib.hid hb; clear hb
  have HH := Lib.hid hh; clear hh
  have ht := hr.take' n
  rw [cb_take] at ht
  by_cases hcn : cap = n
  · have hmn : m = n := by omega
    have HCN := Lib.hid hcn; clear hcn
    have HMN := Lib.hid hmn; clear hmn
    go_enter Tryz.func69, Tryz.ntmps69
    go_wp2_with fail
    go_ret
    have hd : bs.drop n = [] := List.drop_eq_nil_of_le (by rw [HB.out, HMN.out]; exact Nat.le_refl _)
    have hz : m - n = 0 := by have := HMN.out; omega
    have hs := hR.stored (a' := a) (n' := m - n) (cap' := 0) (bs' := bs.drop n) (by rw [hd]; exact .inl rfl) (by rw [hd, hz]; rfl) (by omega) (Nat.zero_le _)
    exact ⟨a, _, rfl, ht.kept (fun _ h => h) (hs.2.mono fun k h => by unfold Off; omega), hs.1, hs.2⟩
  · go_enter Tryz.func69, Tryz.ntmps69
    go_wp2_with fail
    go_ret
    have hs := hR.stored (n' := m - n) (cap' := cap - n) (hr.map_drop n) (by rw [List.length_drop, HB.out]) (by omega) (by have := HM.out; omega)
    exact ⟨a, _, rfl, ht.kept (fun _ h => h) (hs.2.mono fun k h => by unfold Off; omega), hs.1, hs.2⟩

theorem Keeps.of_new {S : Nat → Prop} {w w' : World} (h : Below w.heap.size w w') : Keeps S w w' := ⟨h.os, h.tape, h.output, h.size, fun k hk _ => h.block k hk⟩
theorem RdS.rd_size {w : World} {S : Nat → Prop} {a : Option Addr} {xs : List Value} (h : RdS w S a xs) : Rd w w.heap.size a xs := by
  by_cases h0 : xs = []
  · exact .inl h0
  · rcases h with h | ⟨b, o, ha, hb, hc⟩
    · exact .inl h
    · have hp : 0 < xs.length := List.length_pos_iff.2 h0
      exact .inr ⟨b, o, ha, by simpa using World.block_lt_of_cell? w _ (hc 0 hp), hc⟩

/-- Blocks from 'lo' on, below 'hi'. -/
def New (lo hi b : Nat) : Prop := lo ≤ b ∧ b < hi
/-- Behind a method of the reader that answers one value. -/
def RPost (w : World) (p B : Nat) (sh : Sh) (bs : List UInt8) (val : List Value → Value) (e : Ending) (w' : World) : Prop :=
  Keeps (Off p) w w' ∧ ((∃ ts r cs, parse sh bs = some (ts, r) ∧ e = .returned (val cs) ∧ Is w' (New w.heap.size w'.heap.size) sh cs ts ∧ Re w' p B r) ∨ (parse sh bs = none ∧ e = died 11))
/-- The value of one cell. -/
def one (cs : List Value) : Value := cs.headD undef
/-- The value of a struct. -/
def agg (cs : List Value) : Value := .agg cs.toArray

set_option maxRecDepth 100000 in
theorem r_number (p : Nat) (bs : List UInt8) (w : World) (h : Re w p B bs) :
    Calls Tryz.prog 31 #[.pointer (some ⟨p, 0, none⟩)] w (RPost w p B .num bs one) := by
  by_cases hl : bs.length < 4
  · go_enter Tryz.func31, Tryz.ntmps31
    go_wp2_with fail
    refine (cut_short p bs 4 w h hl).mono ?_
    rintro e w' ⟨rfl, rfl⟩
    exact ⟨rfl, Keeps.refl, .inr ⟨by simp [parse, pNum, hl], rfl⟩⟩
  · have h4 : (bs.take 4).length = 4 := by simp; omega
    have hlt := le_lt (bs.take 4)
    rw [h4] at hlt
    have hle : le ((bs.take 4).take 4) = le (bs.take 4) := by rw [List.take_take]; rfl
    have H4 := Lib.hid h4
    clear h4
    by_cases hm : 1000000000 < le (bs.take 4)
    · obtain ⟨f1, f2, f3⟩ := num_form (bs := bs.take 4) (by rw [H4.out]; omega) (by rw [hle]; exact hm)
      have hp : parse .num bs = none := by simp only [parse, pNum]; rw [if_pos (.inr hm)]
      have HP := Lib.hid hp; clear hp
      go_enter Tryz.func31, Tryz.ntmps31
      go_wp2_with fail
      refine (cut_ok p bs 4 w h (by omega)).mono ?_
      rintro e w1 ⟨a, cap, rfl, hrd, hR1, hK⟩
      have f1' := Lib.hid f1; clear f1
      have f2' := Lib.hid f2; clear f2
      go_wp2_with fail
      refine (new_any a 4 cap w1.heap.size (bs.take 4) w1 H4.out hrd.rd_size (Nat.le_refl _) (by omega)).mono ?_
      rintro e w2 ⟨rfl, hR2, hb2, hz2⟩
      clear hz2
      go_wp2_with fail
      refine (number_any (w1.heap.size + 1) _ (bs.take 4) w2 hR2).mono ?_
      rw [f1'.out, f2'.out]
      rintro e w3 ⟨rfl, _, hg⟩
      have hb3 : Below w1.heap.size w1 w3 := hb2.grown hg hb2.size (fun k hk => by simp at hk; omega)
      go_wp2_with fail
      refine (refuse_any _ w3).mono ?_
      rintro e w4 ⟨rfl, rfl⟩
      exact ⟨rfl, hK.trans (Keeps.of_new hb3), .inr ⟨HP.out, rfl⟩⟩
    · obtain ⟨f1, f2, f3⟩ := num_ok (bs := bs.take 4) (by rw [H4.out]; omega) (by rw [hle]; exact hm)
      rw [hle] at f1
      have hp : parse .num bs = some ([.num (le (bs.take 4) : Int)], bs.drop 4) := by simp only [parse, pNum]; rw [if_neg (by omega)]
      have HP := Lib.hid hp; clear hp
      have f1' := Lib.hid f1; clear f1
      have f2' := Lib.hid f2; clear f2
      clear hle f3
      generalize le (bs.take 4) = v at *
      go_enter Tryz.func31, Tryz.ntmps31
      go_wp2_with fail
      refine (cut_ok p bs 4 w h (by omega)).mono ?_
      rintro e w1 ⟨a, cap, rfl, hrd, hR1, hK⟩
      go_wp2_with fail
      refine (new_any a 4 cap w1.heap.size (bs.take 4) w1 H4.out hrd.rd_size (Nat.le_refl _) (by omega)).mono ?_
      rintro e w2 ⟨rfl, hR2, hb2, hz2⟩
      clear hz2
      go_wp2_with fail
      refine (number_any (w1.heap.size + 1) _ (bs.take 4) w2 hR2).mono ?_
      rw [f1'.out, f2'.out]
      rintro e w3 ⟨rfl, _, hg⟩
      have hb3 : Below w1.heap.size w1 w3 := hb2.grown hg hb2.size (fun k hk => by simp at hk; omega)
      go_wp2_with fail
      go_ret
      exact ⟨hK.trans (Keeps.of_new hb3), .inl ⟨_, _, [.int .i64 (v : Int)], HP.out, rfl, ⟨_, by omega, by omega, rfl, rfl⟩, hR1.below hb3⟩⟩

set_option maxRecDepth 100000 in
theorem r_whole (p : Nat) (bs : List UInt8) (w : World) (h : Re w p B bs) :
    Calls Tryz.prog 93 #[.pointer (some ⟨p, 0, none⟩)] w (RPost w p B .whole bs one) := by
  by_cases hl : bs.length < 8
  · go_enter Tryz.func93, Tryz.ntmps93
    go_wp2_with fail
    refine (cut_short p bs 8 w h hl).mono ?_
    rintro e w' ⟨rfl, rfl⟩
    exact ⟨rfl, Keeps.refl, .inr ⟨by simp [parse, hl], rfl⟩⟩
  · have h4 : (bs.take 8).length = 8 := by simp; omega
    have hle : (bs.take 8).take 8 = bs.take 8 := by rw [List.take_take]; rfl
    obtain ⟨f1, f2, f3⟩ := int_ok (bs := bs.take 8) (by rw [h4]; omega)
    rw [hle] at f1
    have hp : parse .whole bs = some ([.whole (wrap64 (le (bs.take 8) : Int))], bs.drop 8) := by simp only [parse]; rw [if_neg hl]
    have hw := wrap64_in (le (bs.take 8) : Int)
    have HP := Lib.hid hp; clear hp
    have H4 := Lib.hid h4
    have f1' := Lib.hid f1; clear f1
    have f2' := Lib.hid f2; clear f2
    clear hle f3 h4
    generalize wrap64 (le (bs.take 8) : Int) = v at *
    go_enter Tryz.func93, Tryz.ntmps93
    go_wp2_with fail
    refine (cut_ok p bs 8 w h (by omega)).mono ?_
    rintro e w1 ⟨a, cap, rfl, hrd, hR1, hK⟩
    go_wp2_with fail
    refine (new_any a 8 cap w1.heap.size (bs.take 8) w1 H4.out hrd.rd_size (Nat.le_refl _) (by omega)).mono ?_
    rintro e w2 ⟨rfl, hR2, hb2, hz2⟩
    clear hz2
    go_wp2_with fail
    refine (int_any (w1.heap.size + 1) _ (bs.take 8) w2 hR2).mono ?_
    rw [f1'.out, f2'.out]
    rintro e w3 ⟨rfl, _, hg⟩
    have hb3 : Below w1.heap.size w1 w3 := hb2.grown hg hb2.size (fun k hk => by simp at hk; omega)
    go_wp2_with fail
    go_ret
    exact ⟨hK.trans (Keeps.of_new hb3), .inl ⟨_, _, [.int .i64 v], HP.out, rfl, ⟨v, hw.1, hw.2, rfl, rfl⟩, hR1.below hb3⟩⟩

/-- A number that says how many come. -/
def CountPost (w : World) (p B most : Nat) (bs : List UInt8) (e : Ending) (w' : World) : Prop :=
  Keeps (Off p) w w' ∧ ((∃ n r, pNum most bs = some (n, r) ∧ e = .returned (.int .i64 (n : Int)) ∧ Re w' p B r) ∨ (pNum most bs = none ∧ e = died 11))
theorem pNum_cases (most : Nat) (hmost : most ≤ 1000000000) (bs : List UInt8) :
    (∃ n r, pNum 1000000000 bs = some (n, r) ∧ n ≤ 1000000000 ∧ ((n ≤ most ∧ pNum most bs = some (n, r)) ∨ (most < n ∧ pNum most bs = none))) ∨ (pNum 1000000000 bs = none ∧ pNum most bs = none) := by
  unfold pNum
  by_cases hc : bs.length < 4 ∨ 1000000000 < le (bs.take 4)
  · exact .inr ⟨by rw [if_pos hc], by rw [if_pos (by omega)]⟩
  · refine .inl ⟨le (bs.take 4), bs.drop 4, by rw [if_neg hc], by omega, ?_⟩
    by_cases h2 : most < le (bs.take 4)
    · exact .inr ⟨h2, by rw [if_pos (.inr h2)]⟩
    · exact .inl ⟨by omega, by rw [if_neg (by omega)]⟩
set_option maxRecDepth 100000 in
theorem r_count (p most : Nat) (bs : List UInt8) (w : World) (h : Re w p B bs) (hmost : most ≤ 1000000000) :
    Calls Tryz.prog 71 #[.pointer (some ⟨p, 0, none⟩), .int .i64 (most : Int)] w (CountPost w p B most bs) := by
  have hcases := Lib.hid (pNum_cases most hmost bs)
  go_enter Tryz.func71, Tryz.ntmps71
  go_wp2_with fail
  refine (r_number p bs w h).mono ?_
  rintro e w1 ⟨hK, h1⟩
  rcases h1 with ⟨ts, r, cs, hp, rfl, hI, hR⟩ | ⟨hp, rfl⟩
  · rcases hcases.out with ⟨n, r1, hq, hn9, h2⟩ | ⟨hq, _⟩
    · simp only [parse, hq, Option.some.injEq, Prod.mk.injEq] at hp
      obtain ⟨rfl, rfl⟩ := hp
      obtain ⟨n', _, _, rfl, h3⟩ := hI
      simp only [List.cons.injEq, Tok.num.injEq, and_true] at h3
      subst h3
      clear hq
      rcases h2 with ⟨hmn, hp2⟩ | ⟨hmn, hp2⟩
      · have HP := Lib.hid hp2; clear hp2
        simp only [one, List.headD_cons]
        have HMN := Lib.hid hmn
        have hmn2 : ¬ (most : Int) < (n : Int) := by omega
        clear hmn hn9 hmost
        go_wp2_with fail
        go_ret
        exact ⟨hK, .inl ⟨n, r1, HP.out, rfl, hR⟩⟩
      · have HP := Lib.hid hp2; clear hp2
        simp only [one, List.headD_cons]
        go_wp2_with fail
        refine (refuse_any _ w1).mono ?_
        rintro e w4 ⟨rfl, rfl⟩
        exact ⟨rfl, hK, .inr ⟨HP.out, rfl⟩⟩
    · simp [parse, hq] at hp
  · rcases hcases.out with ⟨n, r1, hq, hn9, h2⟩ | ⟨hq, hq2⟩
    · simp [parse, hq] at hp
    · exact ⟨rfl, hK, .inr ⟨hq2, rfl⟩⟩

set_option maxRecDepth 100000 in
theorem r_text (p : Nat) (bs : List UInt8) (w : World) (h : Re w p B bs) :
    Calls Tryz.prog 37 #[.pointer (some ⟨p, 0, none⟩)] w (RPost w p B .text bs one) := by
  go_enter Tryz.func37, Tryz.ntmps37
  go_wp2_with fail
  refine (r_count p 65536 bs w h (by omega)).mono ?_
  rintro e w1 ⟨hK, ⟨n, r, hq, rfl, hR⟩ | ⟨hq, rfl⟩⟩
  · have hn := (pNum_some hq).1
    by_cases hl : r.length < n
    · have hp : parse .text bs = none := by simp only [parse, hq]; rw [if_pos hl]
      have HP := Lib.hid hp; clear hp hq
      go_wp2_with fail
      refine (cut_short p r n w1 hR hl).mono ?_
      rintro e w' ⟨rfl, rfl⟩
      exact ⟨rfl, hK, .inr ⟨HP.out, rfl⟩⟩
    · have hp : parse .text bs = some ([.text (r.take n)], r.drop n) := by simp only [parse, hq]; rw [if_neg hl]
      have HP := Lib.hid hp; clear hp hq
      go_wp2_with fail
      refine (cut_ok p r n w1 hR (by omega)).mono ?_
      rintro e w2 ⟨a, cap, rfl, hrd, hR2, hK2⟩
      have ht : (r.take n).length = n := by simp; omega
      have hconv := run_string_of (P := Tryz.prog) hrd.rd_size 22 9 5 n cap ht Tryz.underlying22 Tryz.underlying5 Tryz.underlying9
      have HT := Lib.hid ht; clear ht
      go_wp2_with fail
      go_ret
      have hsz : (ByteArray.mk (r.take n).toArray).size ≤ maxLen := by
        show (r.take n).toArray.size ≤ maxLen
        rw [List.size_toArray, HT.out]; unfold maxLen; omega
      exact ⟨hK.trans hK2, .inl ⟨_, _, [.string ⟨(r.take n).toArray⟩], HP.out, rfl, ⟨_, hsz, rfl, by simp⟩, hR2⟩⟩
  · have hp : parse .text bs = none := by simp only [parse, hq]
    exact ⟨rfl, hK, .inr ⟨hp, rfl⟩⟩

set_option maxRecDepth 100000 in
theorem r_truth (p : Nat) (bs : List UInt8) (w : World) (h : Re w p B bs) :
    Calls Tryz.prog 76 #[.pointer (some ⟨p, 0, none⟩)] w (RPost w p B .flag bs one) := by
  cases bs with
  | nil =>
    go_enter Tryz.func76, Tryz.ntmps76
    go_wp2_with fail
    refine (cut_short p [] 1 w h (by simp)).mono ?_
    rintro e w' ⟨rfl, rfl⟩
    exact ⟨rfl, Keeps.refl, .inr ⟨by simp [parse], rfl⟩⟩
  | cons b r =>
    have hb8 := b.toNat_lt
    have hpar : parse .flag (b :: r) = if 1 < b.toNat then none else some ([.flag (b.toNat == 1)], r) := rfl
    have HP := Lib.hid hpar; clear hpar
    go_enter Tryz.func76, Tryz.ntmps76
    go_wp2_with fail
    refine (cut_ok p (b :: r) 1 w h (by simp)).mono ?_
    rintro e w1 ⟨a, cap, rfl, hrd, hR, hK⟩
    obtain ⟨g, o, rfl, _, hc⟩ := hrd.rd_size.pos (by simp)
    have hc0 : w1.cell? ⟨g, o, none⟩ = some (.int .u8 (b.toNat : Int)) := by simpa [cb] using hc 0 (by simp)
    clear hc hrd
    have hR : Re w1 p B r := hR
    by_cases h1 : 1 < b.toNat
    · go_wp2_with fail
      refine (refuse_any _ w1).mono ?_
      rintro e w4 ⟨rfl, rfl⟩
      exact ⟨rfl, hK, .inr ⟨by rw [HP.out, if_pos h1], rfl⟩⟩
    · go_wp2_with fail
      go_ret
      refine ⟨hK, .inl ⟨_, _, [.bool (b.toNat == 1)], by rw [HP.out, if_neg h1], ?_, ⟨_, rfl, rfl⟩, hR⟩⟩
      have hbq : ((b.toNat : Int) == 1) = (b.toNat == 1) := by
        rw [Bool.eq_iff_iff]; simp; omega
      exact congrArg (fun x => Ending.returned (.bool x)) hbq
end Go.Proofs.YtbhpbiimfcdgaaaGreat
