/-
  The document's reader for layer 1 (bytes that are read from the front), by contract.
-/
import Derived.Test.YtpepmjkkckgkkaaRef01
import Derived.Test.YtpepmjkkckgkkaaCodecR
import Derived.IntWalk
import Derived.BigQuiet
import Derived.Deep.QuietTactic
namespace Go.Proofs.Ytpepmjkkckgkkaa
open Go.RowKit

section
variable {w w' : World} {c B p : Nat} {bs : List UInt8}
end

/-- The draws do not turn what a reader is. -/
theorem grown_drewN (w : World) (n : Nat) (row : Option Nat) : w.grownBy (w.drewN n) row := ⟨rfl, rfl, rfl, Nat.le_refl _, fun _ _ _ => rfl⟩
theorem grown_trans {a b c : World} {r s : Option Nat} (h : a.grownBy b r) (k : b.grownBy c s) (hs : ∀ j, s = some j → a.heap.size ≤ j ∨ r = some j) : a.grownBy c r :=
  ⟨k.os.trans h.os, k.tape.trans h.tape, k.output.trans h.output, Nat.le_trans h.size k.size, fun j hj hne =>
    (k.block j (Nat.lt_of_lt_of_le hj h.size) (fun e => by rcases hs j e.symm with h | h; omega; exact hne h.symm)).trans (h.block j hj hne)⟩

end Go.Proofs.Ytpepmjkkckgkkaa
