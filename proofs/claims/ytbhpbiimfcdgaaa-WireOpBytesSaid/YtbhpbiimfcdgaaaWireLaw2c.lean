/-
  The statement on bytes that are an operation: both (made by wip/gen_wire.py)
-/
import Derived.Test.YtbhpbiimfcdgaaaWireLaw2c1
import Derived.Test.YtbhpbiimfcdgaaaWireLaw2c2
namespace Go.Proofs.Ytbhpbiimfcdgaaa
open Go.RowKit
set_option linter.unusedVariables false

theorem walk_Opb (a : Option Addr) (n cap : Nat) (bs : List UInt8) (w : World) (hl : bs.length = n) (hr : Rd w w.heap.size a (cb bs)) (hc : n ≤ cap) (hm : cap ≤ maxLen) :
    Calls Try.prog 9 #[.slice a n cap] w fun e w' => e = .returned (.bool true) ∧ Below w.heap.size w w' := by
  by_cases h : ∃ ts, parse shOp bs = some (ts, [])
  · obtain ⟨ts, h⟩ := h
    exact walk_Opb_yes ts a n cap bs w hl hr hc hm h
  · exact walk_Opb_no a n cap bs w hl hr hc hm fun ts e => h ⟨ts, e⟩
end Go.Proofs.Ytbhpbiimfcdgaaa
