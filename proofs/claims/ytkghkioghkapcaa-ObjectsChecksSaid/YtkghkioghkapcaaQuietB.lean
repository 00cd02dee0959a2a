/-
  A region that draws its order, whose callees make new blocks and draw: walked once, at the class 'what lay lies as it lay'.
-/
import Derived.Test.YtkghkioghkapcaaObpL
namespace Go.Proofs.Ytkghkioghkapcaa
open Go.RowKit Go.Sort

/-- A world in which all that lay in w lies as it lay. -/
structure BelowS (w : World) where
  W : World
  h : Below w.heap.size w W
instance (w : World) : Nonempty (BelowS w) := ⟨⟨w, Below.refl _ _⟩⟩
theorem below_drew (w : World) : Below w.heap.size w w.drew := ⟨rfl, rfl, rfl, Nat.le_refl _, fun _ _ => rfl⟩
theorem wp_region_quiet_below {P : Program} {id : Nat} {Q : Exit → Act → World → Prop} {a : Act} {w : World} {l : List Oper} (hm : P.follows .mixedOrders = true) (hB : Region.lexB .any l.toArray = true)
    (h : wpQuiet P l.toArray (fun w' => ∃ p : BelowS w, w' = p.W) (fun a' => ∀ w', (∃ p : BelowS w, w' = p.W) → Q .normal a' w') l a) : (Code.region id l.toArray true).wp P Q a w :=
  wp_region_quiet (C := fun w' => ∃ p : BelowS w, w' = p.W) hm hB ⟨⟨w.drew, below_drew w⟩, rfl⟩ (by simpa using h)
theorem below_call {P : Program} {f : FuncId} {args : Array Value} {w : World} {p : BelowS w} {v : Value} (h : ∀ W, CkS w W → Calls P f args W fun e w' => e = .returned v ∧ Below W.heap.size W w') :
    Calls P f args p.W fun e w'' => e = .returned v ∧ ∃ p : BelowS w, w'' = p.W := (h p.W p.h).mono fun _ w'' ⟨he, hb⟩ => ⟨he, ⟨w'', Below.trans p.h (hb.mono p.h.size)⟩, rfl⟩
theorem cell_belowS {w : World} {a : Addr} {v : Value} (h : w.cell? a = some v) (p : BelowS w) : p.W.cell? a = some v := cell_on p.h h
end Go.Proofs.Ytkghkioghkapcaa
