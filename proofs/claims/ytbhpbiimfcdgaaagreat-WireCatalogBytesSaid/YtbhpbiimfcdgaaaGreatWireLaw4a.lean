/-
  The statement on bytes that are a catalog: both (made by wip/gen_wire.py)
-/
import Derived.Test.YtbhpbiimfcdgaaaGreatWireLaw4a1
import Derived.Test.YtbhpbiimfcdgaaaGreatWireLaw4a2
namespace Go.Proofs.YtbhpbiimfcdgaaaGreat
open Go.RowKit
set_option linter.unusedVariables false

theorem walk_Catalogb (a : Option Addr) (n cap : Nat) (bs : List UInt8) (w : World) (hl : bs.length = n) (hr : Rd w w.heap.size a (cb bs)) (hc : n ≤ cap) (hm : cap ≤ maxLen) :
    Calls Tryz.prog 3 #[.slice a n cap] w fun e w' => e = .returned (.bool true) ∧ Below w.heap.size w w' := by
  by_cases h : ∃ ts, parse shCatalog bs = some (ts, [])
  · obtain ⟨ts, h⟩ := h
    exact walk_Catalogb_yes ts a n cap bs w hl hr hc hm h
  · exact walk_Catalogb_no a n cap bs w hl hr hc hm fun ts e => h ⟨ts, e⟩
end Go.Proofs.YtbhpbiimfcdgaaaGreat
