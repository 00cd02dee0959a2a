/-
  The document's reader, by contract: its fields (number, whole, text, flag, many).
-/
import Derived.Test.YtpepmjkkckgkkaaWireQ
import Derived.Test.YtpepmjkkckgkkaaRefCut
namespace Go.Proofs.Ytpepmjkkckgkkaa
open Go.RowKit
set_option linter.unusedVariables false

/-- Cells of the right kinds. -/
def Typed : Sh → List Value → Prop
  | .num, cs => ∃ n : Int, cs = [.int .i64 n]
  | .whole, cs => ∃ n : Int, cs = [.int .i64 n]
  | .text, cs => ∃ s : ByteArray, cs = [.string s]
  | .flag, cs => ∃ b : Bool, cs = [.bool b]
  | .two a b, cs => ∃ ca cb, cs = ca ++ cb ∧ Typed a ca ∧ Typed b cb
  | .list _, cs => ∃ (a : Option Addr) (l c : Nat), cs = [.slice a l c]
theorem Typed.one : ∀ {sh : Sh} {cs : List Value}, Typed sh cs → ∀ v ∈ cs, v.oneCell' = true := by
  intro sh
  induction sh with
  | num => rintro cs ⟨n, rfl⟩ v hv; rw [List.mem_singleton.1 hv]; rfl
  | whole => rintro cs ⟨n, rfl⟩ v hv; rw [List.mem_singleton.1 hv]; rfl
  | text => rintro cs ⟨n, rfl⟩ v hv; rw [List.mem_singleton.1 hv]; rfl
  | flag => rintro cs ⟨n, rfl⟩ v hv; rw [List.mem_singleton.1 hv]; rfl
  | two a b iha ihb =>
    rintro cs ⟨ca, cb, rfl, h3, h4⟩ v hv
    rcases List.mem_append.1 hv with hv | hv
    · exact iha h3 v hv
    · exact ihb h4 v hv
  | list e ih => rintro cs ⟨a, l, c, rfl⟩ v hv; rw [List.mem_singleton.1 hv]; rfl

/-- All blocks but p and c. -/
def Off2 (p c k : Nat) : Prop := k ≠ p ∧ k ≠ c
section
variable {w w' : World} {p c B i : Nat} {bs : List UInt8} {bad : Bool}
end

/-- What was read (from place i on) stands, or something is wrong. -/
def CStep (bs : List UInt8) (sh : Sh) (i : Nat) (bad : Bool) (j : Nat) (bad' : Bool) : Prop :=
  (bad = false ∧ bad' = false ∧ ∃ ts, parse sh (bs.drop i) = some (ts, bs.drop j)) ∨ (bad' = true ∧ (bad = true ∨ parse sh (bs.drop i) = none))
theorem CStep.two {bs : List UInt8} {a b : Sh} {i j k : Nat} {b0 b1 b2 : Bool} (h : CStep bs a i b0 j b1) (g : CStep bs b j b1 k b2) : CStep bs (.two a b) i b0 k b2 := by
  rcases h with ⟨h1, h2, ts, h3⟩ | ⟨h1, h2⟩
  · rcases g with ⟨g1, g2, us, g3⟩ | ⟨g1, g2⟩
    · exact .inl ⟨h1, g2, _, parse_both h3 g3⟩
    · refine .inr ⟨g1, .inr ?_⟩
      rcases g2 with g2 | g2
      · rw [h2] at g2; cases g2
      · exact parse_snd h3 g2
  · rcases g with ⟨g1, _⟩ | ⟨g1, _⟩
    · rw [h1] at g1; cases g1
    · refine .inr ⟨g1, ?_⟩
      rcases h2 with h2 | h2
      · exact .inl h2
      · exact .inr (parse_fst h2)
theorem num_parse (bs : List UInt8) : (numE bs = 0 ∧ pNum 1000000000 bs = some ((numV bs).toNat, bs.drop (numK bs)) ∧ 0 ≤ numV bs) ∨ (numE bs ≠ 0 ∧ pNum 1000000000 bs = none) := by
  by_cases hl : bs.length < 4
  · obtain ⟨f1, f2, f3⟩ := num_short hl
    exact .inr ⟨by rw [f2]; decide, by unfold pNum; rw [if_pos (.inl hl)]⟩
  · by_cases hm : 1000000000 < le (bs.take 4)
    · obtain ⟨f1, f2, f3⟩ := num_form hl hm
      exact .inr ⟨by rw [f2]; decide, by unfold pNum; rw [if_pos (.inr hm)]⟩
    · obtain ⟨f1, f2, f3⟩ := num_ok hl hm
      refine .inl ⟨f2, ?_, by rw [f1]; omega⟩
      unfold pNum
      rw [if_neg (by omega), f1, f3]
      simp
theorem drop_drop' (bs : List UInt8) (i k : Nat) : (bs.drop i).drop k = bs.drop (i + k) := by rw [List.drop_drop]

theorem set_cell1 {w : World} {b : Nat} {v : Value} (h : w.cell? ⟨b, 1, none⟩ = some v) (u : Value) : (w.setCell ⟨b, 1, none⟩ u).cell? ⟨b, 1, none⟩ = some u := World.cell?_setCell_same _ _ _ h

theorem int_parse (bs : List UInt8) : (intE bs = 0 ∧ parse .whole bs = some ([.whole (intV bs)], bs.drop (intK bs))) ∨ (intE bs ≠ 0 ∧ parse .whole bs = none) := by
  by_cases hl : bs.length < 8
  · obtain ⟨f1, f2, f3⟩ := int_short hl
    exact .inr ⟨by rw [f2]; decide, by simp only [parse]; rw [if_pos hl]⟩
  · obtain ⟨f1, f2, f3⟩ := int_ok hl
    exact .inl ⟨f2, by simp only [parse]; rw [if_neg hl, f1, f3]⟩
theorem txt_parse (bs : List UInt8) : (txtE bs = 0 ∧ parse .text bs = some ([.text (txtV bs)], bs.drop (txtK bs))) ∨ (txtE bs ≠ 0 ∧ parse .text bs = none) := by
  by_cases hl : bs.length < 4
  · obtain ⟨f1, f2, f3⟩ := txt_short hl
    exact .inr ⟨by rw [f2]; decide, by simp only [parse, pNum]; rw [if_pos (.inl hl)]⟩
  · by_cases hm : 65536 < le (bs.take 4)
    · obtain ⟨f1, f2, f3⟩ := txt_form hl hm
      exact .inr ⟨by rw [f2]; decide, by simp only [parse, pNum]; rw [if_pos (.inr hm)]⟩
    · have hp : pNum 65536 bs = some (le (bs.take 4), bs.drop 4) := by unfold pNum; rw [if_neg (by omega)]
      by_cases hs : bs.length < 4 + le (bs.take 4)
      · obtain ⟨f1, f2, f3⟩ := txt_end hl hm hs
        exact .inr ⟨by rw [f2]; decide, by simp only [parse, hp]; rw [if_pos (by rw [List.length_drop]; omega)]⟩
      · obtain ⟨f1, f2, f3⟩ := txt_ok hl hm hs
        exact .inl ⟨f2, by simp only [parse, hp]; rw [if_neg (by rw [List.length_drop]; omega), f1, f3, List.drop_drop]⟩

theorem flag_parse (b : UInt8) (r : List UInt8) : parse .flag (b :: r) = if 1 < b.toNat then none else some ([.flag (b.toNat == 1)], r) := rfl
end Go.Proofs.Ytpepmjkkckgkkaa
