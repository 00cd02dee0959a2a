/-
  The tied table of layer 2: from the rows' condition to what the walks ask; the start that meets it.
-/
import Derived.Test.YtckapnaiehkieaaDoorRows
import Derived.Test.YtckapnaiehkieaaDoorSealA
import Derived.LaidMore
import Derived.Lib.LaidTab
import Derived.Stop.Joined
namespace Go.Proofs.YtckapnaiehkieaaDoor
open Go.RowKit

noncomputable def laidL : List (String × DataW Unit) := [("folkmoot/seal.halves", Rows.laid_folkmoot_seal_halves)]

theorem door_met (os : Os) (args : Array Value) : laidMetH Tryd.prog laidL ((World.doorLaid Tryd.prog 400 os).forCall (fun _ _ => 0) ⟨#[], args, []⟩).memory :=
  laidMetH_of_parts3 (fuel := 8) (laidMet_of_run' 8 (by kernel_rfl) (by kernel_rfl)) (by kernel_rfl) (by kernel_rfl)

theorem of_laid {W : World} (h : laidMetH Tryd.prog laidL W) : Tab W := by
  unfold laidL at h
  rw [MakeChecks.laidMetH_plain _ _ _ (by kernel_rfl)] at h
  have hT : Lib.TabIs Tryd.prog W "folkmoot/seal.halves" .u32 halfTab :=
    Lib.tabIs_of_head (g := 0) (t := 49) (e := 24) (n := 16) (by kernel_rfl) (by kernel_rfl) Tryd.underlying49 Tryd.underlying24 (by kernel_rfl) (by kernel_rfl) h
  exact fun i hi => hT.cell (g := 0) (by kernel_rfl) i hi
end Go.Proofs.YtckapnaiehkieaaDoor
