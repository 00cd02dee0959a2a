/-
  The program's writer, by contract: tables, catalogs, machines (made by wip/gen_wire.py)
-/
import Derived.Test.YtpepmjkkckgkkaaWireB3
namespace Go.Proofs.Ytpepmjkkckgkkaa
open Go.RowKit
set_option linter.unusedVariables false

end Go.Proofs.Ytpepmjkkckgkkaa
