/-
  The statements on bytes: what is shared (made by wip/gen_wire.py)
-/
import Derived.Test.YtbhpbiimfcdgaaaWireH
import Derived.Test.YtbhpbiimfcdgaaaWireLd
import Derived.Test.YtbhpbiimfcdgaaaWireCh
import Derived.Test.YtbhpbiimfcdgaaaWireFs
import Derived.Test.YtbhpbiimfcdgaaaKeep
namespace Go.Proofs.Ytbhpbiimfcdgaaa
open Go.RowKit
set_option linter.unusedVariables false

theorem lent_at3 {w w2 : World} {bs : List UInt8} (hb : Below (w.heap.size + 1) (w.alloc (.cells (cb (bs ++ [165, 90])).toArray 5)) w2) : w2.heap[w.heap.size]? = some (.cells (cb (bs ++ [165, 90])).toArray 5 (0, 0)) :=
  (hb.block _ (by omega)).trans (heap_alloc_new w _)
end Go.Proofs.Ytbhpbiimfcdgaaa
