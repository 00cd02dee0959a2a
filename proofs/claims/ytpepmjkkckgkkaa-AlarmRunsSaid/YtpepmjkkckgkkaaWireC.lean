/-
  The program's 'caught' and 'put', by contract.
-/
import Derived.Test.YtpepmjkkckgkkaaWireB4
import Derived.Defers
import Derived.Recover
import Derived.Laws.Pointers
namespace Go.Proofs.Ytpepmjkkckgkkaa
open Go.RowKit
set_option linter.unusedVariables false

theorem set_cell {w : World} {b : Nat} {v : Value} (h : w.cell? ⟨b, 0, none⟩ = some v) (u : Value) : (w.setCell ⟨b, 0, none⟩ u).cell? ⟨b, 0, none⟩ = some u := by
  exact World.cell?_setCell_same _ _ _ h

-- the deferred closure of 'caught': entered by a panic with an error's number, and by a return
end Go.Proofs.Ytpepmjkkckgkkaa
