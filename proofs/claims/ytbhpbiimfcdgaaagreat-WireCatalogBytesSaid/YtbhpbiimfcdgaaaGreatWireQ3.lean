/-
  The program's reader, by contract: configurations, entries, records (made by wip/gen_wire.py)
-/
import Derived.Test.YtbhpbiimfcdgaaaGreatWireQ1
namespace Go.Proofs.YtbhpbiimfcdgaaaGreat
open Go.RowKit
set_option linter.unusedVariables false

variable {B : Nat}

end Go.Proofs.YtbhpbiimfcdgaaaGreat
