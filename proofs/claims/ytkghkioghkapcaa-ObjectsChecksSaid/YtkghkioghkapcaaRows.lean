/-
  No cell of these rows narrows 'for every input' (looked for: loops, veiled, ifaces, maps, wideKeys, modest, calm, conditions, laid).
  DERIVED. THE GIVEN ROWS OF THIS SEAT. 9 by the template 'for every input the law returns true; each argument reads behind the call as it read before'; 0 by the template 'total and deterministic' (their statements: YtkghkioghkapcaaTotals.lean).
  GIVEN WITH THE SEED: the statements are not yours to turn. If you find one false, say at which input.
  Laid BY PROGRAM, IN A SANDBOX (cutbox-rows.mjs): the forced cells as the released guide's own fill.sh prints them over the translation 9db68d9e42366a80… (all of the seat's roots in one cut). By AI agents, Wed Nov 11 2026. No macro, syntax, notation, axiom, sorry.
-/
import Derived.Test.YtkghkioghkapcaaChecked
import GoSem.Claim
import GoSem.ClaimJoined
import GoSem.ClaimMapViews
import Derived.JoinedTies
import Derived.KernelRfl
namespace Go.Proofs.Ytkghkioghkapcaa
/- THE CELL 'sum', in the pinned program and in every row, IS THE sha256 OF THE DUMP (.gsa) THAT YtkghkioghkapcaaProg.lean LOADS. Nothing in Lean hashes anything: it is a label: what it is worth is what the hold of that sum in a sandbox is worth. -/
noncomputable def Try.pinned : Pinned := { name := "ytkghkioghkapcaa", sum := "9db68d9e42366a801afb1f3f4e2914533afa349ad18047a58511ea1ad4161193", checked := Try.checked }
namespace Rows
def none {H : Type} : Left H := { results := [], args := [] }

/-- 'folkmootlaw07.ObjectsNames': WHATEVER THE INPUT: true; the input reads as it did. -/
def objectsNamesSpec : ChangeSpec := { name := "objectsNames", fn := fun _ => fun
  | [d] => { results := [.lit (.bool true)], args := [d] }
  | _ => none }
def objectsNamesRow : OpenClaim := { program := "ytkghkioghkapcaa", sum := "9db68d9e42366a801afb1f3f4e2914533afa349ad18047a58511ea1ad4161193", func := "folkmoot/folkmootlaw07.ObjectsNames", spec := "objectsNames", apart := false }
def ObjectsNamesSaid : Prop := objectsNamesRow.holds Try.pinned (OpenSpec.ofChange objectsNamesSpec)

/-- ITS FALSE NEIGHBOUR: 'it returns false'. Refute it at one input. -/
def objectsNamesWrong : ChangeSpec := { name := "objectsNames", fn := fun _ => fun
  | [d] => { results := [.lit (.bool false)], args := [d] }
  | _ => none }
def ObjectsNamesWrongFalsely : Prop := objectsNamesRow.holds Try.pinned (OpenSpec.ofChange objectsNamesWrong)

/-- 'folkmootlaw07.ObjectsChecks': WHATEVER THE INPUT: true; the input reads as it did. -/
def objectsChecksSpec : ChangeSpec := { name := "objectsChecks", fn := fun _ => fun
  | [d] => { results := [.lit (.bool true)], args := [d] }
  | _ => none }
def objectsChecksRow : OpenClaim := { program := "ytkghkioghkapcaa", sum := "9db68d9e42366a801afb1f3f4e2914533afa349ad18047a58511ea1ad4161193", func := "folkmoot/folkmootlaw07.ObjectsChecks", spec := "objectsChecks", unfollowed := true, recurses := true, apart := false }
def ObjectsChecksSaid : Prop := objectsChecksRow.holds Try.pinned (OpenSpec.ofChange objectsChecksSpec)

/-- ITS FALSE NEIGHBOUR: 'it returns false'. Refute it at one input. -/
def objectsChecksWrong : ChangeSpec := { name := "objectsChecks", fn := fun _ => fun
  | [d] => { results := [.lit (.bool false)], args := [d] }
  | _ => none }
def ObjectsChecksWrongFalsely : Prop := objectsChecksRow.holds Try.pinned (OpenSpec.ofChange objectsChecksWrong)

/-- 'folkmootlaw07.ObjectsFinds': WHATEVER THE INPUT: true; the input reads as it did. -/
def objectsFindsSpec : ChangeSpec := { name := "objectsFinds", fn := fun _ => fun
  | [d1, d2, d3, d4] => { results := [.lit (.bool true)], args := [d1, d2, d3, d4] }
  | _ => none }
def objectsFindsRow : OpenClaim := { program := "ytkghkioghkapcaa", sum := "9db68d9e42366a801afb1f3f4e2914533afa349ad18047a58511ea1ad4161193", func := "folkmoot/folkmootlaw07.ObjectsFinds", spec := "objectsFinds", unfollowed := true, recurses := true, apart := false }
def ObjectsFindsSaid : Prop := objectsFindsRow.holds Try.pinned (OpenSpec.ofChange objectsFindsSpec)

/-- ITS FALSE NEIGHBOUR: 'it returns false'. Refute it at one input. -/
def objectsFindsWrong : ChangeSpec := { name := "objectsFinds", fn := fun _ => fun
  | [d1, d2, d3, d4] => { results := [.lit (.bool false)], args := [d1, d2, d3, d4] }
  | _ => none }
def ObjectsFindsWrongFalsely : Prop := objectsFindsRow.holds Try.pinned (OpenSpec.ofChange objectsFindsWrong)

/-- 'folkmootlaw07.ObjectsSchemas': WHATEVER THE INPUT: true; the input reads as it did. -/
def objectsSchemasSpec : ChangeSpec := { name := "objectsSchemas", fn := fun _ => fun
  | [d1, d2, d3] => { results := [.lit (.bool true)], args := [d1, d2, d3] }
  | _ => none }
def objectsSchemasRow : OpenClaim := { program := "ytkghkioghkapcaa", sum := "9db68d9e42366a801afb1f3f4e2914533afa349ad18047a58511ea1ad4161193", func := "folkmoot/folkmootlaw07.ObjectsSchemas", spec := "objectsSchemas", unfollowed := true, recurses := true, apart := false }
def ObjectsSchemasSaid : Prop := objectsSchemasRow.holds Try.pinned (OpenSpec.ofChange objectsSchemasSpec)

/-- ITS FALSE NEIGHBOUR: 'it returns false'. Refute it at one input. -/
def objectsSchemasWrong : ChangeSpec := { name := "objectsSchemas", fn := fun _ => fun
  | [d1, d2, d3] => { results := [.lit (.bool false)], args := [d1, d2, d3] }
  | _ => none }
def ObjectsSchemasWrongFalsely : Prop := objectsSchemasRow.holds Try.pinned (OpenSpec.ofChange objectsSchemasWrong)

/-- 'folkmootlaw07.ObjectsTables': WHATEVER THE INPUT: true; the input reads as it did. -/
def objectsTablesSpec : ChangeSpec := { name := "objectsTables", fn := fun _ => fun
  | [d1, d2, d3, d4] => { results := [.lit (.bool true)], args := [d1, d2, d3, d4] }
  | _ => none }
def objectsTablesRow : OpenClaim := { program := "ytkghkioghkapcaa", sum := "9db68d9e42366a801afb1f3f4e2914533afa349ad18047a58511ea1ad4161193", func := "folkmoot/folkmootlaw07.ObjectsTables", spec := "objectsTables", unfollowed := true, recurses := true, apart := false }
def ObjectsTablesSaid : Prop := objectsTablesRow.holds Try.pinned (OpenSpec.ofChange objectsTablesSpec)

/-- ITS FALSE NEIGHBOUR: 'it returns false'. Refute it at one input. -/
def objectsTablesWrong : ChangeSpec := { name := "objectsTables", fn := fun _ => fun
  | [d1, d2, d3, d4] => { results := [.lit (.bool false)], args := [d1, d2, d3, d4] }
  | _ => none }
def ObjectsTablesWrongFalsely : Prop := objectsTablesRow.holds Try.pinned (OpenSpec.ofChange objectsTablesWrong)

/-- 'folkmootlaw07.ObjectsColumns': WHATEVER THE INPUT: true; the input reads as it did. -/
def objectsColumnsSpec : ChangeSpec := { name := "objectsColumns", fn := fun _ => fun
  | [d1, d2, d3, d4] => { results := [.lit (.bool true)], args := [d1, d2, d3, d4] }
  | _ => none }
def objectsColumnsRow : OpenClaim := { program := "ytkghkioghkapcaa", sum := "9db68d9e42366a801afb1f3f4e2914533afa349ad18047a58511ea1ad4161193", func := "folkmoot/folkmootlaw07.ObjectsColumns", spec := "objectsColumns", unfollowed := true, recurses := true, apart := false }
def ObjectsColumnsSaid : Prop := objectsColumnsRow.holds Try.pinned (OpenSpec.ofChange objectsColumnsSpec)

/-- ITS FALSE NEIGHBOUR: 'it returns false'. Refute it at one input. -/
def objectsColumnsWrong : ChangeSpec := { name := "objectsColumns", fn := fun _ => fun
  | [d1, d2, d3, d4] => { results := [.lit (.bool false)], args := [d1, d2, d3, d4] }
  | _ => none }
def ObjectsColumnsWrongFalsely : Prop := objectsColumnsRow.holds Try.pinned (OpenSpec.ofChange objectsColumnsWrong)

/-- 'folkmootlaw07.ObjectsRules': WHATEVER THE INPUT: true; the input reads as it did. -/
def objectsRulesSpec : ChangeSpec := { name := "objectsRules", fn := fun _ => fun
  | [d1, d2, d3, d4] => { results := [.lit (.bool true)], args := [d1, d2, d3, d4] }
  | _ => none }
def objectsRulesRow : OpenClaim := { program := "ytkghkioghkapcaa", sum := "9db68d9e42366a801afb1f3f4e2914533afa349ad18047a58511ea1ad4161193", func := "folkmoot/folkmootlaw07.ObjectsRules", spec := "objectsRules", unfollowed := true, recurses := true, apart := false }
def ObjectsRulesSaid : Prop := objectsRulesRow.holds Try.pinned (OpenSpec.ofChange objectsRulesSpec)

/-- ITS FALSE NEIGHBOUR: 'it returns false'. Refute it at one input. -/
def objectsRulesWrong : ChangeSpec := { name := "objectsRules", fn := fun _ => fun
  | [d1, d2, d3, d4] => { results := [.lit (.bool false)], args := [d1, d2, d3, d4] }
  | _ => none }
def ObjectsRulesWrongFalsely : Prop := objectsRulesRow.holds Try.pinned (OpenSpec.ofChange objectsRulesWrong)

/-- 'folkmootlaw07.ObjectsRight': WHATEVER THE INPUT: true; the input reads as it did. -/
def objectsRightSpec : ChangeSpec := { name := "objectsRight", fn := fun _ => fun
  | [d1, d2, d3, d4, d5] => { results := [.lit (.bool true)], args := [d1, d2, d3, d4, d5] }
  | _ => none }
def objectsRightRow : OpenClaim := { program := "ytkghkioghkapcaa", sum := "9db68d9e42366a801afb1f3f4e2914533afa349ad18047a58511ea1ad4161193", func := "folkmoot/folkmootlaw07.ObjectsRight", spec := "objectsRight", unfollowed := true, recurses := true, apart := false }
def ObjectsRightSaid : Prop := objectsRightRow.holds Try.pinned (OpenSpec.ofChange objectsRightSpec)

/-- ITS FALSE NEIGHBOUR: 'it returns false'. Refute it at one input. -/
def objectsRightWrong : ChangeSpec := { name := "objectsRight", fn := fun _ => fun
  | [d1, d2, d3, d4, d5] => { results := [.lit (.bool false)], args := [d1, d2, d3, d4, d5] }
  | _ => none }
def ObjectsRightWrongFalsely : Prop := objectsRightRow.holds Try.pinned (OpenSpec.ofChange objectsRightWrong)

/-- 'folkmootlaw07.ObjectsBack': WHATEVER THE INPUT: true; the input reads as it did. -/
def objectsBackSpec : ChangeSpec := { name := "objectsBack", fn := fun _ => fun
  | [d1, d2, d3, d4, d5] => { results := [.lit (.bool true)], args := [d1, d2, d3, d4, d5] }
  | _ => none }
def objectsBackRow : OpenClaim := { program := "ytkghkioghkapcaa", sum := "9db68d9e42366a801afb1f3f4e2914533afa349ad18047a58511ea1ad4161193", func := "folkmoot/folkmootlaw07.ObjectsBack", spec := "objectsBack", unfollowed := true, recurses := true, apart := false }
def ObjectsBackSaid : Prop := objectsBackRow.holds Try.pinned (OpenSpec.ofChange objectsBackSpec)

/-- ITS FALSE NEIGHBOUR: 'it returns false'. Refute it at one input. -/
def objectsBackWrong : ChangeSpec := { name := "objectsBack", fn := fun _ => fun
  | [d1, d2, d3, d4, d5] => { results := [.lit (.bool false)], args := [d1, d2, d3, d4, d5] }
  | _ => none }
def ObjectsBackWrongFalsely : Prop := objectsBackRow.holds Try.pinned (OpenSpec.ofChange objectsBackWrong)

/- THE SECOND FORM. 'bulk': how many values and letters a reading holds, each counted each time it is reached (what is shared counts as often as it is met; a slice's spare places count too). A statement '..UptoSaid' is the law's where the arguments, and the package variables that the reading takes, are together of bulk at most 1048576: NARROWER than '..Said'. Prove '..Said' where nothing that the law and all that it calls make is longer than what came in: it says more and counts as full. Else prove '..UptoSaid'. A law counts once. -/
mutual
def uptoBulk {H : Type} : DataW H → Nat
  | .lit (.string bytes) => bytes.length + 1
  | .lit _ => 1
  | .nil => 1
  | .ptr d => uptoBulk d + 1
  | .slice elems spare => uptoBulkAll elems + uptoBulkAll spare + 1
  | .agg parts => uptoBulkAll parts + 1
  | .iface _ d => uptoBulk d + 1
  | .map entries => uptoBulkEntries entries + 1
  | .held _ => 1
def uptoBulkAll {H : Type} : List (DataW H) → Nat
  | [] => 0
  | d :: r => uptoBulk d + uptoBulkAll r
def uptoBulkEntries {H : Type} : List (Lit × DataW H) → Nat
  | [] => 0
  | x :: r => uptoBulkEntry x + uptoBulkEntries r
def uptoBulkEntry {H : Type} : Lit × DataW H → Nat
  | (.string bytes, d) => bytes.length + uptoBulk d + 1
  | (_, d) => uptoBulk d + 1
 end
def uptoSmall : (H : Type) → List (DataW H) → Bool := fun _ ds => decide (uptoBulkAll ds ≤ 1048576)
def OpenSpec.upto (s : _root_.Go.ChangeSpec) : _root_.Go.OpenSpec := { _root_.Go.OpenSpec.ofChange s with cond := some uptoSmall }

/-- 'folkmootlaw07.ObjectsNames', WHERE WHAT IT READS IS OF BULK AT MOST 1048576: true; the input reads as it did. -/
def objectsNamesUptoRow : OpenClaim := { program := "ytkghkioghkapcaa", sum := "9db68d9e42366a801afb1f3f4e2914533afa349ad18047a58511ea1ad4161193", func := "folkmoot/folkmootlaw07.ObjectsNames", spec := "objectsNames", apart := false, narrowed := true }
def ObjectsNamesUptoSaid : Prop := objectsNamesUptoRow.holds Try.pinned (OpenSpec.upto objectsNamesSpec)

/-- 'folkmootlaw07.ObjectsChecks', WHERE WHAT IT READS IS OF BULK AT MOST 1048576: true; the input reads as it did. -/
def objectsChecksUptoRow : OpenClaim := { program := "ytkghkioghkapcaa", sum := "9db68d9e42366a801afb1f3f4e2914533afa349ad18047a58511ea1ad4161193", func := "folkmoot/folkmootlaw07.ObjectsChecks", spec := "objectsChecks", unfollowed := true, recurses := true, apart := false, narrowed := true }
def ObjectsChecksUptoSaid : Prop := objectsChecksUptoRow.holds Try.pinned (OpenSpec.upto objectsChecksSpec)

/-- 'folkmootlaw07.ObjectsFinds', WHERE WHAT IT READS IS OF BULK AT MOST 1048576: true; the input reads as it did. -/
def objectsFindsUptoRow : OpenClaim := { program := "ytkghkioghkapcaa", sum := "9db68d9e42366a801afb1f3f4e2914533afa349ad18047a58511ea1ad4161193", func := "folkmoot/folkmootlaw07.ObjectsFinds", spec := "objectsFinds", unfollowed := true, recurses := true, apart := false, narrowed := true }
def ObjectsFindsUptoSaid : Prop := objectsFindsUptoRow.holds Try.pinned (OpenSpec.upto objectsFindsSpec)

/-- 'folkmootlaw07.ObjectsSchemas', WHERE WHAT IT READS IS OF BULK AT MOST 1048576: true; the input reads as it did. -/
def objectsSchemasUptoRow : OpenClaim := { program := "ytkghkioghkapcaa", sum := "9db68d9e42366a801afb1f3f4e2914533afa349ad18047a58511ea1ad4161193", func := "folkmoot/folkmootlaw07.ObjectsSchemas", spec := "objectsSchemas", unfollowed := true, recurses := true, apart := false, narrowed := true }
def ObjectsSchemasUptoSaid : Prop := objectsSchemasUptoRow.holds Try.pinned (OpenSpec.upto objectsSchemasSpec)

/-- 'folkmootlaw07.ObjectsTables', WHERE WHAT IT READS IS OF BULK AT MOST 1048576: true; the input reads as it did. -/
def objectsTablesUptoRow : OpenClaim := { program := "ytkghkioghkapcaa", sum := "9db68d9e42366a801afb1f3f4e2914533afa349ad18047a58511ea1ad4161193", func := "folkmoot/folkmootlaw07.ObjectsTables", spec := "objectsTables", unfollowed := true, recurses := true, apart := false, narrowed := true }
def ObjectsTablesUptoSaid : Prop := objectsTablesUptoRow.holds Try.pinned (OpenSpec.upto objectsTablesSpec)

/-- 'folkmootlaw07.ObjectsColumns', WHERE WHAT IT READS IS OF BULK AT MOST 1048576: true; the input reads as it did. -/
def objectsColumnsUptoRow : OpenClaim := { program := "ytkghkioghkapcaa", sum := "9db68d9e42366a801afb1f3f4e2914533afa349ad18047a58511ea1ad4161193", func := "folkmoot/folkmootlaw07.ObjectsColumns", spec := "objectsColumns", unfollowed := true, recurses := true, apart := false, narrowed := true }
def ObjectsColumnsUptoSaid : Prop := objectsColumnsUptoRow.holds Try.pinned (OpenSpec.upto objectsColumnsSpec)

/-- 'folkmootlaw07.ObjectsRules', WHERE WHAT IT READS IS OF BULK AT MOST 1048576: true; the input reads as it did. -/
def objectsRulesUptoRow : OpenClaim := { program := "ytkghkioghkapcaa", sum := "9db68d9e42366a801afb1f3f4e2914533afa349ad18047a58511ea1ad4161193", func := "folkmoot/folkmootlaw07.ObjectsRules", spec := "objectsRules", unfollowed := true, recurses := true, apart := false, narrowed := true }
def ObjectsRulesUptoSaid : Prop := objectsRulesUptoRow.holds Try.pinned (OpenSpec.upto objectsRulesSpec)

/-- 'folkmootlaw07.ObjectsRight', WHERE WHAT IT READS IS OF BULK AT MOST 1048576: true; the input reads as it did. -/
def objectsRightUptoRow : OpenClaim := { program := "ytkghkioghkapcaa", sum := "9db68d9e42366a801afb1f3f4e2914533afa349ad18047a58511ea1ad4161193", func := "folkmoot/folkmootlaw07.ObjectsRight", spec := "objectsRight", unfollowed := true, recurses := true, apart := false, narrowed := true }
def ObjectsRightUptoSaid : Prop := objectsRightUptoRow.holds Try.pinned (OpenSpec.upto objectsRightSpec)

/-- 'folkmootlaw07.ObjectsBack', WHERE WHAT IT READS IS OF BULK AT MOST 1048576: true; the input reads as it did. -/
def objectsBackUptoRow : OpenClaim := { program := "ytkghkioghkapcaa", sum := "9db68d9e42366a801afb1f3f4e2914533afa349ad18047a58511ea1ad4161193", func := "folkmoot/folkmootlaw07.ObjectsBack", spec := "objectsBack", unfollowed := true, recurses := true, apart := false, narrowed := true }
def ObjectsBackUptoSaid : Prop := objectsBackUptoRow.holds Try.pinned (OpenSpec.upto objectsBackSpec)

end Rows
end Go.Proofs.Ytkghkioghkapcaa
