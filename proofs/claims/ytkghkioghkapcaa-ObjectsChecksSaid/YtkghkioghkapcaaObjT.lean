/-
  Layer 7's calls as mathematics: what each makes of objects, or the error.
-/
import Derived.Test.YtkghkioghkapcaaObjM
namespace Go.Proofs.Ytkghkioghkapcaa

def namedB (s n k : ByteArray) (r : Rul) : Bool := decide (r.kind = 4) && (decide (r.schema = s) && (decide (r.table = n) && (decide (k.toList = []) || decide (r.key = k))))
def namesB (t : Tab) (s n k : ByteArray) : Bool := t.rules.any (namedB s n k)

abbrev noO : Objs := ⟨[], []⟩
abbrev noT : Tab := ⟨⟨#[]⟩, ⟨#[]⟩, ⟨#[]⟩, [], []⟩
/-- Laid in ahead of the first that it comes ahead of. -/
def insBy {α : Type} (lt : α → α → Bool) (x : α) : List α → List α
  | [] => [x]
  | y :: r => if lt x y then x :: y :: r else y :: insBy lt x r
def ltS (a b : Sch) : Bool := ltT a.name b.name
def ltR (a b : Rul) : Bool := ltT a.name b.name
def Tab.withOwner (t : Tab) (w : ByteArray) : Tab := ⟨t.schema, t.name, w, t.cols, t.rules⟩
def Tab.withCols (t : Tab) (l : List Col) : Tab := ⟨t.schema, t.name, t.owner, l, t.rules⟩
def Tab.withRules (t : Tab) (l : List Rul) : Tab := ⟨t.schema, t.name, t.owner, t.cols, l⟩
def putTab (o : Objs) (i : Nat) (t : Tab) : Objs := ⟨o.schemas, o.tables.set i t⟩
def tabA (o : Objs) (s n : ByteArray) : Tab := o.tables.getD (tabI o.tables s n).toNat noT

def findF (o : Objs) (s n : ByteArray) : Tab × Int :=
  if rightB o = false then (noT, 63) else if tabI o.tables s n < 0 then (noT, 61) else (tabA o s n, 0)
def setOwnerF (o : Objs) (s n w : ByteArray) : Objs × Int :=
  if rightB o = false then (noO, 63) else if nameB w = false then (noO, 1) else if tabI o.tables s n < 0 then (noO, 61)
  else (putTab o (tabI o.tables s n).toNat ((tabA o s n).withOwner w), 0)
def addSchemaF (o : Objs) (n w : ByteArray) : Objs × Int :=
  if rightB o = false then (noO, 63) else if nameB n = false ∨ nameB w = false then (noO, 1) else if 0 ≤ schI o.schemas n then (noO, 60) else if 8 ≤ o.schemas.length then (noO, 2)
  else (⟨insBy ltS ⟨n, w⟩ o.schemas, o.tables⟩, 0)
def dropSchemaF (o : Objs) (n : ByteArray) : Objs × Int :=
  if rightB o = false then (noO, 63) else if schI o.schemas n < 0 then (noO, 61) else if 0 < tabN o.tables n then (noO, 62)
  else (⟨o.schemas.filter fun s => !eqT s.name n, o.tables⟩, 0)
def addTableF (o : Objs) (t : Tab) : Objs × Int :=
  if rightB o = false then (noO, 63) else if nameB t.name = false ∨ nameB t.owner = false then (noO, 1) else if schI o.schemas t.schema < 0 then (noO, 61) else if 0 ≤ tabI o.tables t.schema t.name then (noO, 60)
  else if 8 ≤ tabN o.tables t.schema then (noO, 2) else if colsB t.cols = false ∨ 0 < t.rules.length then (noO, 63)
  else (⟨o.schemas, insBy ahead t o.tables⟩, 0)
/-- Does a foreign rule of another table name it? -/
def usedT (o : Objs) (s n : ByteArray) : Bool := (o.tables.eraseIdx (tabI o.tables s n).toNat).any fun t => namesB t s n ⟨#[]⟩
def dropTableF (o : Objs) (s n : ByteArray) : Objs × Int :=
  if rightB o = false then (noO, 63) else if tabI o.tables s n < 0 then (noO, 61) else if usedT o s n = true then (noO, 62)
  else (⟨o.schemas, o.tables.eraseIdx (tabI o.tables s n).toNat⟩, 0)
def addColumnF (o : Objs) (s n : ByteArray) (c : Col) : Objs × Int :=
  if rightB o = false then (noO, 63) else if tabI o.tables s n < 0 then (noO, 61) else if oneB c = false ∨ c.null = false then (noO, 63) else if 0 ≤ colI (tabA o s n).cols c.name then (noO, 60)
  else if 8 ≤ (tabA o s n).cols.length then (noO, 2) else (putTab o (tabI o.tables s n).toNat ((tabA o s n).withCols ((tabA o s n).cols ++ [c])), 0)
def usedC (t : Tab) (c : ByteArray) : Bool := decide (t.cols.length = 1) || t.rules.any fun r => inB r.cols c
def dropColumnF (o : Objs) (s n c : ByteArray) : Objs × Int :=
  if rightB o = false then (noO, 63) else if tabI o.tables s n < 0 ∨ colI (tabA o s n).cols c < 0 then (noO, 61) else if usedC (tabA o s n) c = true then (noO, 62)
  else (putTab o (tabI o.tables s n).toNat ((tabA o s n).withCols ((tabA o s n).cols.filter fun x => !eqT x.name c)), 0)
def addRuleF (o : Objs) (s n : ByteArray) (r : Rul) : Objs × Int :=
  if rightB o = false then (noO, 63) else if tabI o.tables s n < 0 then (noO, 61) else if 8 < r.cols.length ∨ fitsB (tabA o s n).cols r = false then (noO, 63) else if 0 ≤ rulI (tabA o s n).rules r.name then (noO, 60)
  else if 8 ≤ (tabA o s n).rules.length then (noO, 2) else if r.kind = 4 ∧ keyE o.tables (tabA o s n).cols r ≠ 0 then (noO, keyE o.tables (tabA o s n).cols r)
  else (putTab o (tabI o.tables s n).toNat ((tabA o s n).withRules (insBy ltR r (tabA o s n).rules)), 0)
/-- The kind of a table's rule of that name. -/
def kindR (t : Tab) (k : ByteArray) : Int := match t.rules[(rulI t.rules k).toNat]? with | some r => r.kind | none => 0
def usedR (o : Objs) (s n k : ByteArray) : Bool := o.tables.any fun t => namesB t s n k
def dropRuleF (o : Objs) (s n k : ByteArray) : Objs × Int :=
  if rightB o = false then (noO, 63) else if tabI o.tables s n < 0 ∨ rulI (tabA o s n).rules k < 0 then (noO, 61) else if kindR (tabA o s n) k = 2 ∧ usedR o s n k = true then (noO, 62)
  else (putTab o (tabI o.tables s n).toNat ((tabA o s n).withRules ((tabA o s n).rules.filter fun x => !eqT x.name k)), 0)
end Go.Proofs.Ytkghkioghkapcaa
