/-
  The program's reader, by contract: its fields (refuse, end, cut, number, whole, count, text, truth).
-/
import Derived.Test.YtpepmjkkckgkkaaWireD
import Derived.Test.YtpepmjkkckgkkaaCodecR
import Derived.Lib.SliceRun
import Derived.IntWalk
namespace Go.Proofs.Ytpepmjkkckgkkaa
open Go.RowKit
set_option linter.unusedVariables false
variable {B : Nat}

/-- All blocks but p. -/
def Off (p k : Nat) : Prop := k ≠ p
section
variable {w w' : World} {p : Nat} {bs : List UInt8}
end

theorem RdS.drop' {w : World} {S : Nat → Prop} {b o : Nat} {xs : List Value} (h : RdS w S (some ⟨b, o, none⟩) xs) (k : Nat) : RdS w S (some ⟨b, o + k, none⟩) (xs.drop k) := by
  rcases h with h | ⟨b', o', ha, hb, hc⟩
  · subst h; exact .inl (by simp)
  · simp only [Option.some.injEq, Addr.mk.injEq, and_true] at ha
    obtain ⟨rfl, rfl⟩ := ha
    refine .inr ⟨b, o + k, rfl, hb, fun i hi => ?_⟩
    have hi' : k + i < xs.length := by simp at hi; omega
    rw [Nat.add_assoc, hc (k + i) hi']; simp
theorem RdS.take' {w : World} {S : Nat → Prop} {a : Option Addr} {xs : List Value} (h : RdS w S a xs) (k : Nat) : RdS w S a (xs.take k) := by
  rcases h with h | ⟨b, o, ha, hb, hc⟩
  · subst h; exact .inl (by simp)
  · exact .inr ⟨b, o, ha, hb, fun i hi => by
      have hi' : i < xs.length := by simp at hi; omega
      rw [hc i hi']; simp⟩

theorem RdS.map_drop {w : World} {S : Nat → Prop} {a : Option Addr} {bs : List UInt8} (h : RdS w S a (cb bs)) (k : Nat) : RdS w S (Option.map (fun x => x.add k) a) (cb (bs.drop k)) := by
  rw [← cb_drop]
  rcases h with h | ⟨b, o, rfl, hb, hc⟩
  · rw [h]; exact .inl (by simp)
  · have e : Option.map (fun x : Addr => x.add k) (some ⟨b, o, none⟩) = some ⟨b, o + k, none⟩ := by simp [Addr.add_mid]
    rw [e]
    exact RdS.drop' (.inr ⟨b, o, rfl, hb, hc⟩) k

theorem Keeps.of_new {S : Nat → Prop} {w w' : World} (h : Below w.heap.size w w') : Keeps S w w' := ⟨h.os, h.tape, h.output, h.size, fun k hk _ => h.block k hk⟩
theorem RdS.rd_size {w : World} {S : Nat → Prop} {a : Option Addr} {xs : List Value} (h : RdS w S a xs) : Rd w w.heap.size a xs := by
  by_cases h0 : xs = []
  · exact .inl h0
  · rcases h with h | ⟨b, o, ha, hb, hc⟩
    · exact .inl h
    · have hp : 0 < xs.length := List.length_pos_iff.2 h0
      exact .inr ⟨b, o, ha, by simpa using World.block_lt_of_cell? w _ (hc 0 hp), hc⟩

/-- Blocks from 'lo' on, below 'hi'. -/
def New (lo hi b : Nat) : Prop := lo ≤ b ∧ b < hi
/-- The value of one cell. -/
def one (cs : List Value) : Value := cs.headD undef
/-- The value of a struct. -/
def agg (cs : List Value) : Value := .agg cs.toArray

theorem pNum_cases (most : Nat) (hmost : most ≤ 1000000000) (bs : List UInt8) :
    (∃ n r, pNum 1000000000 bs = some (n, r) ∧ n ≤ 1000000000 ∧ ((n ≤ most ∧ pNum most bs = some (n, r)) ∨ (most < n ∧ pNum most bs = none))) ∨ (pNum 1000000000 bs = none ∧ pNum most bs = none) := by
  unfold pNum
  by_cases hc : bs.length < 4 ∨ 1000000000 < le (bs.take 4)
  · exact .inr ⟨by rw [if_pos hc], by rw [if_pos (by omega)]⟩
  · refine .inl ⟨le (bs.take 4), bs.drop 4, by rw [if_neg hc], by omega, ?_⟩
    by_cases h2 : most < le (bs.take 4)
    · exact .inr ⟨h2, by rw [if_pos (.inr h2)]⟩
    · exact .inl ⟨by omega, by rw [if_neg (by omega)]⟩
end Go.Proofs.Ytpepmjkkckgkkaa
