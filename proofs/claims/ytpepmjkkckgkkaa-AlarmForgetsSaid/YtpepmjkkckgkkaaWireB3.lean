/-
  The program's writer, by contract: lists of columns; commands, operations (made by wip/gen_wire.py)
-/
import Derived.Test.YtpepmjkkckgkkaaWireB2
namespace Go.Proofs.Ytpepmjkkckgkkaa
open Go.RowKit
set_option linter.unusedVariables false

end Go.Proofs.Ytpepmjkkckgkkaa
