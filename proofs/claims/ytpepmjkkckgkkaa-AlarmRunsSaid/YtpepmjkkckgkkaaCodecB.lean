/-
  codec's puts and the reader, by contract.
-/
import Derived.Test.YtpepmjkkckgkkaaCodecA
namespace Go.Proofs.Ytpepmjkkckgkkaa
open Go.RowKit

end Go.Proofs.Ytpepmjkkckgkkaa
