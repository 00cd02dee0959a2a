/-
  The program's writer, by contract: lists of texts and numbers; small things (made by wip/gen_wire.py)
-/
import Derived.Test.YtpepmjkkckgkkaaWireA
import Derived.Test.YtpepmjkkckgkkaaWireS
import Derived.Deep.LoopGhost
namespace Go.Proofs.Ytpepmjkkckgkkaa
open Go.RowKit
set_option linter.unusedVariables false

theorem box_cell {w : World} {b : Nat} {cs : Array Value} {t : TypeId} (h : w.heap[b]? = some (.cells cs t (0, 0))) (i : Nat) {v : Value} (hv : cs[i]? = some v) : w.cell? ⟨b, i, none⟩ = some v := by
  rw [cell_of_row w b i cs t (0, 0) h]; exact hv
theorem flatten_succ {tss : List (List Tok)} {k : Nat} {t : List Tok} (h : tss[k]? = some t) : (tss.take (k + 1)).flatten = (tss.take k).flatten ++ t := by
  obtain ⟨hk, rfl⟩ := List.getElem?_eq_some_iff.1 h
  rw [List.take_succ_eq_append_getElem hk, List.flatten_append]; simp
theorem flatten_split {tss : List (List Tok)} {k : Nat} {t : List Tok} (h : tss[k]? = some t) : tss.flatten = (tss.take k).flatten ++ (t ++ (tss.drop (k + 1)).flatten) := by
  obtain ⟨hk, rfl⟩ := List.getElem?_eq_some_iff.1 h
  have e : tss = tss.take k ++ (tss[k] :: tss.drop (k + 1)) := by rw [← List.drop_eq_getElem_cons hk, List.take_append_drop]
  have e2 := congrArg List.flatten e
  rw [List.flatten_append, List.flatten_cons] at e2
  exact e2
theorem firstF_long {l : Nat} (h : 4096 < l) : firstF [.many l] = 2 := by
  have hf : (Tok.many l).fault = 2 := by simp only [Tok.fault]; rw [if_pos h]
  simp only [firstF]; rw [if_neg (by rw [hf]; decide), hf]

end Go.Proofs.Ytpepmjkkckgkkaa
