/-
  No cell of these rows narrows 'for every input' (looked for: loops, veiled, ifaces, maps, wideKeys, modest, calm, conditions, laid).
  DERIVED. THE GIVEN ROWS OF THIS SEAT. 6 by the template 'for every input the law returns true; each argument reads behind the call as it read before'; 0 by the template 'total and deterministic' (their statements: YtekhkmhpeefenaaTotals.lean).
  GIVEN WITH THE SEED: the statements are not yours to turn. If you find one false, say at which input.
  Laid BY PROGRAM, IN A SANDBOX (cutbox-rows.mjs): the forced cells as the released guide's own fill.sh prints them over the translation 78d8e50965779611… (all of the seat's roots in one cut). By AI agents, Wed Nov 11 2026. No macro, syntax, notation, axiom, sorry.
-/
import Derived.Test.YtekhkmhpeefenaaChecked
import GoSem.Claim
import GoSem.ClaimJoined
import GoSem.ClaimMapViews
import Derived.JoinedTies
import Derived.KernelRfl
namespace Go.Proofs.Ytekhkmhpeefenaa
/- THE CELL 'sum', in the pinned program and in every row, IS THE sha256 OF THE DUMP (.gsa) THAT YtekhkmhpeefenaaProg.lean LOADS. Nothing in Lean hashes anything: it is a label: what it is worth is what the hold of that sum in a sandbox is worth. -/
noncomputable def Try.pinned : Pinned := { name := "ytekhkmhpeefenaa", sum := "78d8e5096577961137a6545e187bcce31a70c5f0e02aa6d0bfec1dceca0f4d62", checked := Try.checked }
namespace Rows
def none {H : Type} : Left H := { results := [], args := [] }

/-- 'folkmootlaw08.RolesChecks': WHATEVER THE INPUT: true; the input reads as it did. -/
def rolesChecksSpec : ChangeSpec := { name := "rolesChecks", fn := fun _ => fun
  | [d] => { results := [.lit (.bool true)], args := [d] }
  | _ => none }
def rolesChecksRow : OpenClaim := { program := "ytekhkmhpeefenaa", sum := "78d8e5096577961137a6545e187bcce31a70c5f0e02aa6d0bfec1dceca0f4d62", func := "folkmoot/folkmootlaw08.RolesChecks", spec := "rolesChecks", inPlace := ["internal/bytealg.abigen_runtime_cmpstring"], unfollowed := true, recurses := true, apart := false }
def RolesChecksSaid : Prop := rolesChecksRow.holds Try.pinned (OpenSpec.ofChange rolesChecksSpec)

/-- ITS FALSE NEIGHBOUR: 'it returns false'. Refute it at one input. -/
def rolesChecksWrong : ChangeSpec := { name := "rolesChecks", fn := fun _ => fun
  | [d] => { results := [.lit (.bool false)], args := [d] }
  | _ => none }
def RolesChecksWrongFalsely : Prop := rolesChecksRow.holds Try.pinned (OpenSpec.ofChange rolesChecksWrong)

/-- 'folkmootlaw08.RolesAdds': WHATEVER THE INPUT: true; the input reads as it did. -/
def rolesAddsSpec : ChangeSpec := { name := "rolesAdds", fn := fun _ => fun
  | [d1, d2] => { results := [.lit (.bool true)], args := [d1, d2] }
  | _ => none }
def rolesAddsRow : OpenClaim := { program := "ytekhkmhpeefenaa", sum := "78d8e5096577961137a6545e187bcce31a70c5f0e02aa6d0bfec1dceca0f4d62", func := "folkmoot/folkmootlaw08.RolesAdds", spec := "rolesAdds", inPlace := ["internal/bytealg.abigen_runtime_cmpstring"], unfollowed := true, recurses := true, apart := false }
def RolesAddsSaid : Prop := rolesAddsRow.holds Try.pinned (OpenSpec.ofChange rolesAddsSpec)

/-- ITS FALSE NEIGHBOUR: 'it returns false'. Refute it at one input. -/
def rolesAddsWrong : ChangeSpec := { name := "rolesAdds", fn := fun _ => fun
  | [d1, d2] => { results := [.lit (.bool false)], args := [d1, d2] }
  | _ => none }
def RolesAddsWrongFalsely : Prop := rolesAddsRow.holds Try.pinned (OpenSpec.ofChange rolesAddsWrong)

/-- 'folkmootlaw08.RolesJoins': WHATEVER THE INPUT: true; the input reads as it did. -/
def rolesJoinsSpec : ChangeSpec := { name := "rolesJoins", fn := fun _ => fun
  | [d1, d2, d3] => { results := [.lit (.bool true)], args := [d1, d2, d3] }
  | _ => none }
def rolesJoinsRow : OpenClaim := { program := "ytekhkmhpeefenaa", sum := "78d8e5096577961137a6545e187bcce31a70c5f0e02aa6d0bfec1dceca0f4d62", func := "folkmoot/folkmootlaw08.RolesJoins", spec := "rolesJoins", inPlace := ["internal/bytealg.abigen_runtime_cmpstring"], unfollowed := true, recurses := true, apart := false }
def RolesJoinsSaid : Prop := rolesJoinsRow.holds Try.pinned (OpenSpec.ofChange rolesJoinsSpec)

/-- ITS FALSE NEIGHBOUR: 'it returns false'. Refute it at one input. -/
def rolesJoinsWrong : ChangeSpec := { name := "rolesJoins", fn := fun _ => fun
  | [d1, d2, d3] => { results := [.lit (.bool false)], args := [d1, d2, d3] }
  | _ => none }
def RolesJoinsWrongFalsely : Prop := rolesJoinsRow.holds Try.pinned (OpenSpec.ofChange rolesJoinsWrong)

/-- 'folkmootlaw08.RolesAll': WHATEVER THE INPUT: true; the input reads as it did. -/
def rolesAllSpec : ChangeSpec := { name := "rolesAll", fn := fun _ => fun
  | [d1, d2, d3] => { results := [.lit (.bool true)], args := [d1, d2, d3] }
  | _ => none }
def rolesAllRow : OpenClaim := { program := "ytekhkmhpeefenaa", sum := "78d8e5096577961137a6545e187bcce31a70c5f0e02aa6d0bfec1dceca0f4d62", func := "folkmoot/folkmootlaw08.RolesAll", spec := "rolesAll", inPlace := ["internal/bytealg.abigen_runtime_cmpstring"], unfollowed := true, recurses := true, apart := false }
def RolesAllSaid : Prop := rolesAllRow.holds Try.pinned (OpenSpec.ofChange rolesAllSpec)

/-- ITS FALSE NEIGHBOUR: 'it returns false'. Refute it at one input. -/
def rolesAllWrong : ChangeSpec := { name := "rolesAll", fn := fun _ => fun
  | [d1, d2, d3] => { results := [.lit (.bool false)], args := [d1, d2, d3] }
  | _ => none }
def RolesAllWrongFalsely : Prop := rolesAllRow.holds Try.pinned (OpenSpec.ofChange rolesAllWrong)

/-- 'folkmootlaw08.RolesOn': WHATEVER THE INPUT: true; the input reads as it did. -/
def rolesOnSpec : ChangeSpec := { name := "rolesOn", fn := fun _ => fun
  | [d1, d2, d3, d4] => { results := [.lit (.bool true)], args := [d1, d2, d3, d4] }
  | _ => none }
def rolesOnRow : OpenClaim := { program := "ytekhkmhpeefenaa", sum := "78d8e5096577961137a6545e187bcce31a70c5f0e02aa6d0bfec1dceca0f4d62", func := "folkmoot/folkmootlaw08.RolesOn", spec := "rolesOn", inPlace := ["internal/bytealg.abigen_runtime_cmpstring"], unfollowed := true, recurses := true, apart := false }
def RolesOnSaid : Prop := rolesOnRow.holds Try.pinned (OpenSpec.ofChange rolesOnSpec)

/-- ITS FALSE NEIGHBOUR: 'it returns false'. Refute it at one input. -/
def rolesOnWrong : ChangeSpec := { name := "rolesOn", fn := fun _ => fun
  | [d1, d2, d3, d4] => { results := [.lit (.bool false)], args := [d1, d2, d3, d4] }
  | _ => none }
def RolesOnWrongFalsely : Prop := rolesOnRow.holds Try.pinned (OpenSpec.ofChange rolesOnWrong)

/-- 'folkmootlaw08.RolesGrow': WHATEVER THE INPUT: true; the input reads as it did. -/
def rolesGrowSpec : ChangeSpec := { name := "rolesGrow", fn := fun _ => fun
  | [d1, d2, d3, d4] => { results := [.lit (.bool true)], args := [d1, d2, d3, d4] }
  | _ => none }
def rolesGrowRow : OpenClaim := { program := "ytekhkmhpeefenaa", sum := "78d8e5096577961137a6545e187bcce31a70c5f0e02aa6d0bfec1dceca0f4d62", func := "folkmoot/folkmootlaw08.RolesGrow", spec := "rolesGrow", inPlace := ["internal/bytealg.abigen_runtime_cmpstring"], unfollowed := true, recurses := true, apart := false }
def RolesGrowSaid : Prop := rolesGrowRow.holds Try.pinned (OpenSpec.ofChange rolesGrowSpec)

/-- ITS FALSE NEIGHBOUR: 'it returns false'. Refute it at one input. -/
def rolesGrowWrong : ChangeSpec := { name := "rolesGrow", fn := fun _ => fun
  | [d1, d2, d3, d4] => { results := [.lit (.bool false)], args := [d1, d2, d3, d4] }
  | _ => none }
def RolesGrowWrongFalsely : Prop := rolesGrowRow.holds Try.pinned (OpenSpec.ofChange rolesGrowWrong)

/- THE SECOND FORM. 'bulk': how many values and letters a reading holds, each counted each time it is reached (what is shared counts as often as it is met; a slice's spare places count too). A statement '..UptoSaid' is the law's where the arguments, and the package variables that the reading takes, are together of bulk at most 1048576: NARROWER than '..Said'. Prove '..Said' where nothing that the law and all that it calls make is longer than what came in: it says more and counts as full. Else prove '..UptoSaid'. A law counts once. -/
mutual
def uptoBulk {H : Type} : DataW H → Nat
  | .lit (.string bytes) => bytes.length + 1
  | .lit _ => 1
  | .nil => 1
  | .ptr d => uptoBulk d + 1
  | .slice elems spare => uptoBulkAll elems + uptoBulkAll spare + 1
  | .agg parts => uptoBulkAll parts + 1
  | .iface _ d => uptoBulk d + 1
  | .map entries => uptoBulkEntries entries + 1
  | .held _ => 1
def uptoBulkAll {H : Type} : List (DataW H) → Nat
  | [] => 0
  | d :: r => uptoBulk d + uptoBulkAll r
def uptoBulkEntries {H : Type} : List (Lit × DataW H) → Nat
  | [] => 0
  | x :: r => uptoBulkEntry x + uptoBulkEntries r
def uptoBulkEntry {H : Type} : Lit × DataW H → Nat
  | (.string bytes, d) => bytes.length + uptoBulk d + 1
  | (_, d) => uptoBulk d + 1
 end
def uptoSmall : (H : Type) → List (DataW H) → Bool := fun _ ds => decide (uptoBulkAll ds ≤ 1048576)
def OpenSpec.upto (s : _root_.Go.ChangeSpec) : _root_.Go.OpenSpec := { _root_.Go.OpenSpec.ofChange s with cond := some uptoSmall }

/-- 'folkmootlaw08.RolesChecks', WHERE WHAT IT READS IS OF BULK AT MOST 1048576: true; the input reads as it did. -/
def rolesChecksUptoRow : OpenClaim := { program := "ytekhkmhpeefenaa", sum := "78d8e5096577961137a6545e187bcce31a70c5f0e02aa6d0bfec1dceca0f4d62", func := "folkmoot/folkmootlaw08.RolesChecks", spec := "rolesChecks", inPlace := ["internal/bytealg.abigen_runtime_cmpstring"], unfollowed := true, recurses := true, apart := false, narrowed := true }
def RolesChecksUptoSaid : Prop := rolesChecksUptoRow.holds Try.pinned (OpenSpec.upto rolesChecksSpec)

/-- 'folkmootlaw08.RolesAdds', WHERE WHAT IT READS IS OF BULK AT MOST 1048576: true; the input reads as it did. -/
def rolesAddsUptoRow : OpenClaim := { program := "ytekhkmhpeefenaa", sum := "78d8e5096577961137a6545e187bcce31a70c5f0e02aa6d0bfec1dceca0f4d62", func := "folkmoot/folkmootlaw08.RolesAdds", spec := "rolesAdds", inPlace := ["internal/bytealg.abigen_runtime_cmpstring"], unfollowed := true, recurses := true, apart := false, narrowed := true }
def RolesAddsUptoSaid : Prop := rolesAddsUptoRow.holds Try.pinned (OpenSpec.upto rolesAddsSpec)

/-- 'folkmootlaw08.RolesJoins', WHERE WHAT IT READS IS OF BULK AT MOST 1048576: true; the input reads as it did. -/
def rolesJoinsUptoRow : OpenClaim := { program := "ytekhkmhpeefenaa", sum := "78d8e5096577961137a6545e187bcce31a70c5f0e02aa6d0bfec1dceca0f4d62", func := "folkmoot/folkmootlaw08.RolesJoins", spec := "rolesJoins", inPlace := ["internal/bytealg.abigen_runtime_cmpstring"], unfollowed := true, recurses := true, apart := false, narrowed := true }
def RolesJoinsUptoSaid : Prop := rolesJoinsUptoRow.holds Try.pinned (OpenSpec.upto rolesJoinsSpec)

/-- 'folkmootlaw08.RolesAll', WHERE WHAT IT READS IS OF BULK AT MOST 1048576: true; the input reads as it did. -/
def rolesAllUptoRow : OpenClaim := { program := "ytekhkmhpeefenaa", sum := "78d8e5096577961137a6545e187bcce31a70c5f0e02aa6d0bfec1dceca0f4d62", func := "folkmoot/folkmootlaw08.RolesAll", spec := "rolesAll", inPlace := ["internal/bytealg.abigen_runtime_cmpstring"], unfollowed := true, recurses := true, apart := false, narrowed := true }
def RolesAllUptoSaid : Prop := rolesAllUptoRow.holds Try.pinned (OpenSpec.upto rolesAllSpec)

/-- 'folkmootlaw08.RolesOn', WHERE WHAT IT READS IS OF BULK AT MOST 1048576: true; the input reads as it did. -/
def rolesOnUptoRow : OpenClaim := { program := "ytekhkmhpeefenaa", sum := "78d8e5096577961137a6545e187bcce31a70c5f0e02aa6d0bfec1dceca0f4d62", func := "folkmoot/folkmootlaw08.RolesOn", spec := "rolesOn", inPlace := ["internal/bytealg.abigen_runtime_cmpstring"], unfollowed := true, recurses := true, apart := false, narrowed := true }
def RolesOnUptoSaid : Prop := rolesOnUptoRow.holds Try.pinned (OpenSpec.upto rolesOnSpec)

/-- 'folkmootlaw08.RolesGrow', WHERE WHAT IT READS IS OF BULK AT MOST 1048576: true; the input reads as it did. -/
def rolesGrowUptoRow : OpenClaim := { program := "ytekhkmhpeefenaa", sum := "78d8e5096577961137a6545e187bcce31a70c5f0e02aa6d0bfec1dceca0f4d62", func := "folkmoot/folkmootlaw08.RolesGrow", spec := "rolesGrow", inPlace := ["internal/bytealg.abigen_runtime_cmpstring"], unfollowed := true, recurses := true, apart := false, narrowed := true }
def RolesGrowUptoSaid : Prop := rolesGrowUptoRow.holds Try.pinned (OpenSpec.upto rolesGrowSpec)

end Rows
end Go.Proofs.Ytekhkmhpeefenaa
