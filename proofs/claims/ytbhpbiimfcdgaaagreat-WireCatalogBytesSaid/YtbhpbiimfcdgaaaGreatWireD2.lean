/-
  The program's Put of catalogs and machines, by contract (made by wip/gen_wire.py)
-/
import Derived.Test.YtbhpbiimfcdgaaaGreatWireD1
namespace Go.Proofs.YtbhpbiimfcdgaaaGreat
open Go.RowKit
set_option linter.unusedVariables false

end Go.Proofs.YtbhpbiimfcdgaaaGreat
