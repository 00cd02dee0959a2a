/-
  The program's writer, by contract: rules, configurations, entries, records (made by wip/gen_wire.py)
-/
import Derived.Test.YtpepmjkkckgkkaaWireB1
namespace Go.Proofs.Ytpepmjkkckgkkaa
open Go.RowKit
set_option linter.unusedVariables false

end Go.Proofs.Ytpepmjkkckgkkaa
