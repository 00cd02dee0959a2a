/-
  The document's New and Whole, by contract; what is shared by its Get of all things.
-/
import Derived.Test.YtbhpbiimfcdgaaaGreatWireCt
import Derived.Test.YtbhpbiimfcdgaaaGreatWireG
namespace Go.Proofs.YtbhpbiimfcdgaaaGreat
open Go.RowKit
set_option linter.unusedVariables false

theorem below_drewN {B : Nat} {w w' : World} (h : Below B w w') (n : Nat) : Below B w (w'.drewN n) := h.trans ⟨rfl, rfl, rfl, Nat.le_refl _, fun _ _ => rfl⟩
theorem c_new (a : Option Addr) (len cap : Nat) (bs : List UInt8) (w : World) (hl : bs.length = len) (hrd : Rd w w.heap.size a (cb bs)) (hlc : len ≤ cap) (hcm : cap ≤ maxLen) :
    Calls Tryz.prog 16 #[.slice a len cap] w fun e w' => e = .returned (.pointer (some ⟨w.heap.size + 1, 0, none⟩)) ∧ Cu w' (w.heap.size + 1) w.heap.size w.heap.size bs 0 false ∧ Below w.heap.size w w' ∧ w.heap.size + 2 ≤ w'.heap.size := by
  have HL := Lib.hid hl; clear hl
  go_enter Tryz.func16, Tryz.ntmps16
  go_wp2_with fail
  go_ret
  have hb : Below w.heap.size w ((w.alloc (.cells #[.slice a len cap, .int .i64 0] 122)).alloc (.cells #[.pointer (some ⟨w.heap.size, 0, none⟩), .bool false] 124)) := ((Below.refl _ _).alloc (Nat.le_refl _) _).alloc (by simp) _
  refine ⟨rfl, ⟨by omega, by omega, heap_alloc2_new w _ _, Nat.le_refl _, Nat.zero_le _, a, cap, ?_, hrd.below hb (Nat.le_refl _), by rw [HL.out]; exact hlc, hcm⟩, hb, by simp⟩
  rw [HL.out]; exact heap_alloc2_old w _ _
theorem whole_bad (p c B i : Nat) (bs : List UInt8) (w : World) (h : Cu w p c B bs i true) :
    Calls Tryz.prog 18 #[.pointer (some ⟨p, 0, none⟩)] w fun e w' => e = .returned (.bool false) ∧ ∃ n, w' = w.drewN n := by
  obtain ⟨c0, c1, _⟩ := h.open_
  go_enter Tryz.func18, Tryz.ntmps18
  go_wp2_with fail
  go_ret
  exact ⟨rfl, 0, rfl⟩
theorem whole_more (p c B i : Nat) (bs : List UInt8) (w : World) (h : Cu w p c B bs i false) (hi : i < bs.length) :
    Calls Tryz.prog 18 #[.pointer (some ⟨p, 0, none⟩)] w fun e w' => e = .returned (.bool false) ∧ ∃ n, w' = w.drewN n := by
  obtain ⟨c0, c1, _⟩ := h.open_
  have hne : ((bs.length : Int) - (i : Int) == 0) = false := by simp; omega
  go_enter Tryz.func18, Tryz.ntmps18
  go_wp2_with fail
  refine (cut_left c B i bs w h.2.2.2).mono ?_
  rintro e w1 ⟨rfl, d, rfl⟩
  go_wp2_with fail
  go_ret
  exact ⟨rfl, d, rfl⟩
theorem whole_done (p c B i : Nat) (bs : List UInt8) (w : World) (h : Cu w p c B bs i false) (hi : i = bs.length) :
    Calls Tryz.prog 18 #[.pointer (some ⟨p, 0, none⟩)] w fun e w' => e = .returned (.bool true) ∧ ∃ n, w' = w.drewN n := by
  obtain ⟨c0, c1, _⟩ := h.open_
  have hne : ((bs.length : Int) - (i : Int) == 0) = true := by simp; omega
  have HI := Lib.hid hi; clear hi
  go_enter Tryz.func18, Tryz.ntmps18
  go_wp2_with fail
  refine (cut_left c B i bs w h.2.2.2).mono ?_
  rintro e w1 ⟨rfl, d, rfl⟩
  go_wp2_with fail
  go_ret
  exact ⟨rfl, d, rfl⟩
/-- What the document's Get answers. -/
def RGetPost (w : World) (c0 : Array Value) (sh : Sh) (bs : List UInt8) (e : Ending) (w' : World) : Prop :=
  Below w.heap.size w w' ∧ (((∃ ts, parse sh bs = some (ts, [])) ∧ ∃ cs : List Value, Typed sh cs ∧ e = .returned (.tuple #[.agg cs.toArray, .int .i64 0])) ∨ ((∀ ts, parse sh bs ≠ some (ts, [])) ∧ e = .returned (.tuple #[.agg c0, .int .i64 11])))
/-- Were these all bytes, and was nothing wrong? -/
theorem whole_of {w : World} {p c B j : Nat} {bs : List UInt8} {bad : Bool} {sh : Sh} (hC : Cu w p c B bs j bad) (hs : CStep bs sh 0 false j bad) :
    (bad = false ∧ j = bs.length ∧ ∃ ts, parse sh bs = some (ts, [])) ∨ ((bad = true ∨ j < bs.length) ∧ ∀ ts, parse sh bs ≠ some (ts, [])) := by
  have hj : j ≤ bs.length := hC.2.2.2.2.1
  rcases hs with ⟨_, rfl, ts, hp⟩ | ⟨rfl, h | h⟩
  · rw [List.drop_zero] at hp
    by_cases he : j = bs.length
    · exact .inl ⟨rfl, he, ts, by rw [hp, he]; simp⟩
    · refine .inr ⟨.inr (by omega), fun us hu => ?_⟩
      rw [hp] at hu
      simp only [Option.some.injEq, Prod.mk.injEq, List.drop_eq_nil_iff] at hu
      omega
  · cases h
  · rw [List.drop_zero] at h
    exact .inr ⟨.inl rfl, fun us hu => by rw [h] at hu; cases hu⟩
theorem Typed.size : ∀ {sh : Sh} {cs : List Value}, Typed sh cs → cs.length = sh.size := by
  intro sh
  induction sh with
  | num => rintro cs ⟨n, rfl⟩; rfl
  | whole => rintro cs ⟨n, rfl⟩; rfl
  | text => rintro cs ⟨n, rfl⟩; rfl
  | flag => rintro cs ⟨n, rfl⟩; rfl
  | two a b iha ihb => rintro cs ⟨ca, cb, rfl, h3, h4⟩; simp [Sh.size, iha h3, ihb h4]
  | list e ih => rintro cs ⟨a, l, c, rfl⟩; rfl
end Go.Proofs.YtbhpbiimfcdgaaaGreat
