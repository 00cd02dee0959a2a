/-
  codec's inner functions, by contract: widen, cut, join.
-/
import Derived.Test.YtpepmjkkckgkkaaProg
import Derived.Test.YtpepmjkkckgkkaaMem
namespace Go.Proofs.Ytpepmjkkckgkkaa
open Go.RowKit

theorem info_byte : (Try.prog.info? 5).map (fun i => (i.zero, i.size, i.bytes)) = some (some (.int .u8 0), 1, 1) := by kernel_rfl
theorem size_byte : (Try.prog.info? 5).map (·.size) = some 1 := by kernel_rfl

end Go.Proofs.Ytpepmjkkckgkkaa
