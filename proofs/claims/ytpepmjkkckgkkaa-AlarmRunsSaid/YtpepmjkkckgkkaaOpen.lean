/-
  What came in, read as a thing of a shape.
-/
import Derived.Test.YtpepmjkkckgkkaaWireF
namespace Go.Proofs.Ytpepmjkkckgkkaa
theorem opens_trod {P : Program} {t : TypeId} {sh : Sh} (h : Opens P t sh) {H : Type} {enc : TypeId × Value → H} {W : World} {spare : Nat → Bool} {held : Bool} {cs : List Value} {x : DataW H × List MemPlace}
    (hx : ∃ m, DataW.trod enc P W 0 spare held m t cs = some x) : ∃ ts, Is W (· < W.heap.size) sh cs ts := by
  obtain ⟨m, hm⟩ := hx
  exact h.2 enc W _ _ m _ _ hm
end Go.Proofs.Ytpepmjkkckgkkaa
