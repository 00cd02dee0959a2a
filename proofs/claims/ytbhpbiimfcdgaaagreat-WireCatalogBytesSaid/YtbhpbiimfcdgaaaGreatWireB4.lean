/-
  The program's writer, by contract: tables, catalogs, machines (made by wip/gen_wire.py)
-/
import Derived.Test.YtbhpbiimfcdgaaaGreatWireB3
namespace Go.Proofs.YtbhpbiimfcdgaaaGreat
open Go.RowKit
set_option linter.unusedVariables false

end Go.Proofs.YtbhpbiimfcdgaaaGreat
