/-
  Roles that come in, read as lists of texts and members, whatever their length; each text fits a machine.
-/
import Derived.Test.YtekhkmhpeefenaaOpenQ
import Derived.Test.YtekhkmhpeefenaaRolR
namespace Go.Proofs.Ytekhkmhpeefenaa
open Go.ChangeShapes Go.WideShapes Go.ChangeAt Go.RowKit Go.Deep
set_option linter.unusedVariables false

theorem oq_text : OpensQ Try.prog 9 1 (fun _ _ => strP) (fun s => s.size ≤ maxLen) := opensQ_text Try.underlying9 (by kernel_rfl)
theorem oq_texts : OpensQ Try.prog 22 1 (fun W S cs (l : List ByteArray) => ∃ v, cs = [v] ∧ Lst W S strP 1 v l) (fun l => l.length ≤ 2 ^ 48 ∧ ∀ y ∈ l, y.size ≤ maxLen) :=
  opensQ_list Try.underlying22 (by kernel_rfl) oq_text (by decide) (of_decide_eq_true (by kernel_rfl))
theorem oq_mem : OpensQ Try.prog 45 2 (fun _ _ => memP) (fun m => m.role.size ≤ maxLen ∧ m.of.size ≤ maxLen) := by
  have ht := Try.underlying45
  refine ⟨by kernel_rfl, fun enc W spare held fuel cs x h hw => ?_⟩
  have hl : cs.length = 2 := (len_struct ht h).trans (by kernel_rfl)
  obtain ⟨a, b, rfl⟩ : ∃ a b, cs = [a, b] := by match cs, hl with | [a, b], _ => exact ⟨a, b, rfl⟩
  obtain ⟨y0, h0, s0⟩ := field_of ht h hw oq_text 0 0 rfl rfl rfl
  obtain ⟨y1, h1, s1⟩ := field_of ht h hw oq_text 1 1 rfl rfl rfl
  simp only [strP, List.drop, List.take, List.cons.injEq, and_true] at h0 h1
  subst h0 h1
  exact ⟨⟨y0, y1⟩, rfl, s0, s1⟩
theorem oq_mems : OpensQ Try.prog 23 1 (fun W S cs (l : List Mem) => ∃ v, cs = [v] ∧ Lst W S memP 2 v l) (fun l => l.length ≤ 2 ^ 48 ∧ ∀ m ∈ l, m.role.size ≤ maxLen ∧ m.of.size ≤ maxLen) :=
  opensQ_list Try.underlying23 (by kernel_rfl) oq_mem (by decide) (of_decide_eq_true (by kernel_rfl))
theorem oq_rol : OpensQ Try.prog 25 2 rolP (fun r => smallR (2 ^ 48) r ∧ shortR r) := by
  have ht := Try.underlying25
  refine ⟨by kernel_rfl, fun enc W spare held fuel cs x h hw => ?_⟩
  have hl : cs.length = 2 := (len_struct ht h).trans (by kernel_rfl)
  obtain ⟨c0, c1, rfl⟩ : ∃ c0 c1, cs = [c0, c1] := by match cs, hl with | [c0, c1], _ => exact ⟨c0, c1, rfl⟩
  obtain ⟨y0, ⟨vs, h0, hs⟩, hs48, hss⟩ := field_of ht h hw oq_texts 0 0 rfl rfl rfl
  obtain ⟨y1, ⟨vt, h1, htt⟩, ht48, ht'⟩ := field_of ht h hw oq_mems 1 1 rfl rfl rfl
  simp only [List.drop, List.take, List.cons.injEq, and_true] at h0 h1
  subst h0 h1
  exact ⟨⟨y0, y1⟩, ⟨_, _, rfl, hs, htt⟩, ⟨hs48, ht48⟩, hss, ht'⟩
end Go.Proofs.Ytekhkmhpeefenaa
