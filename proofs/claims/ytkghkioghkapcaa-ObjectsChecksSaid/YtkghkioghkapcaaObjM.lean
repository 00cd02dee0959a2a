/-
  Objects as mathematics: names, columns, rules, tables, schemas; when they are right.
-/
import Derived.Laws.Strings
import Derived.Sort.Walk0
namespace Go.Proofs.Ytkghkioghkapcaa

/-- One text is another. -/
def eqT (a b : ByteArray) : Bool := a.toList == b.toList
theorem toList_inj {a b : ByteArray} (h : a.toList = b.toList) : a = b := by
  rw [ByteArray.toList_eq, ByteArray.toList_eq] at h
  cases a; cases b
  congr 1
  exact Array.toList_inj.1 h
theorem eqT_iff {a b : ByteArray} : eqT a b = true ↔ a = b := by
  unfold eqT
  rw [beq_iff_eq]
  exact ⟨toList_inj, fun h => by rw [h]⟩
theorem eqT_refl (a : ByteArray) : eqT a a = true := eqT_iff.2 rfl
theorem eqT_no {a b : ByteArray} : eqT a b = false ↔ a ≠ b := by
  rw [← Bool.not_eq_true, eqT_iff]
theorem eqT_comm (a b : ByteArray) : eqT a b = eqT b a := by
  by_cases h : a = b
  · subst h; rfl
  · rw [eqT_no.2 h, eqT_no.2 (fun e => h e.symm)]
/-- One text comes ahead of another. -/
def ltT (a b : ByteArray) : Bool := Op.bytesLess a.toList b.toList
theorem ltT_iff {a b : ByteArray} : ltT a b = true ↔ a.toList < b.toList := by unfold ltT; rw [Go.Proofs.bytesLess_eq]; simp
theorem ltT_irr (a : ByteArray) : ltT a a = false := by
  rw [← Bool.not_eq_true, ltT_iff]; exact List.lt_irrefl _
theorem ltT_trans {a b c : ByteArray} (h : ltT a b = true) (g : ltT b c = true) : ltT a c = true := by
  rw [ltT_iff] at *; exact List.lt_trans h g
theorem ltT_or {a b : ByteArray} : ltT a b = true ∨ a = b ∨ ltT b a = true := by
  rw [ltT_iff, ltT_iff]
  by_cases h1 : a.toList < b.toList
  · exact .inl h1
  · by_cases h2 : b.toList < a.toList
    · exact .inr (.inr h2)
    · exact .inr (.inl (toList_inj (List.le_antisymm (List.not_lt.1 h2) (List.not_lt.1 h1))))
theorem ltT_anti {a b : ByteArray} (h : ltT a b = true) : ltT b a = false := by
  cases g : ltT b a with
  | false => rfl
  | true =>
    have := ltT_trans h g
    rw [ltT_irr] at this
    cases this

/-- The place of the first that is so; -1: there is none. -/
def idxI {α : Type} (p : α → Bool) : List α → Int
  | [] => -1
  | x :: r => if p x then 0 else if idxI p r < 0 then -1 else idxI p r + 1
theorem idxI_ge {α : Type} (p : α → Bool) : ∀ l : List α, -1 ≤ idxI p l
  | [] => by simp [idxI]
  | x :: r => by
    have := idxI_ge p r
    unfold idxI
    split
    · omega
    · split <;> omega
theorem idxI_lt {α : Type} (p : α → Bool) : ∀ l : List α, idxI p l < l.length
  | [] => by simp [idxI]
  | x :: r => by
    have := idxI_lt p r
    unfold idxI
    rw [List.length_cons]
    split
    · omega
    · split <;> omega
theorem idxI_no {α : Type} {p : α → Bool} : ∀ {l : List α}, (∀ x ∈ l, p x = false) → idxI p l = -1
  | [], _ => rfl
  | x :: r, h => by
    unfold idxI
    rw [h x (by simp), idxI_no (l := r) fun y hy => h y (by simp [hy])]
    simp
theorem idxI_neg {α : Type} {p : α → Bool} {l : List α} (h : idxI p l < 0) : ∀ x ∈ l, p x = false := by
  induction l with
  | nil => intro x hx; cases hx
  | cons y r ih =>
    unfold idxI at h
    split at h
    · omega
    · rename_i hp
      split at h
      · rename_i hr
        intro x hx
        rcases List.mem_cons.1 hx with rfl | hx
        · simpa using hp
        · exact ih hr x hx
      · omega
theorem idxI_at {α : Type} {p : α → Bool} : ∀ {l : List α} {k : Nat} (h : k < l.length), (∀ i (hi : i < l.length), i < k → p l[i] = false) → p l[k] = true → idxI p l = k
  | [], k, h, _, _ => by simp at h
  | x :: r, 0, _, _, hp => by unfold idxI; rw [if_pos (by simpa using hp)]; rfl
  | x :: r, k + 1, h, hn, hp => by
    have hx : p x = false := hn 0 (by simp) (by omega)
    have ih := idxI_at (l := r) (k := k) (by simpa using h) (fun i hi hk => by have := hn (i + 1) (by simpa using hi) (by omega); simpa using this) (by simpa using hp)
    unfold idxI
    rw [if_neg (by simp [hx]), ih, if_neg (by omega)]
    omega
theorem idxI_get {α : Type} {p : α → Bool} : ∀ {l : List α} {k : Nat}, idxI p l = k → ∃ h : k < l.length, p l[k] = true ∧ ∀ i (hi : i < l.length), i < k → p l[i] = false
  | [], k, h => by unfold idxI at h; omega
  | x :: r, k, h => by
    unfold idxI at h
    split at h
    · rename_i hp
      obtain rfl : k = 0 := by omega
      exact ⟨by simp, by simpa using hp, fun i _ hi => by omega⟩
    · rename_i hp
      split at h
      · omega
      · rename_i hr
        obtain ⟨m, rfl⟩ : ∃ m, k = m + 1 := ⟨k - 1, by have := idxI_ge p r; omega⟩
        obtain ⟨h1, h2, h3⟩ := idxI_get (p := p) (l := r) (k := m) (by omega)
        refine ⟨by simpa using h1, by simpa using h2, fun i hi hk => ?_⟩
        cases i with
        | zero => simpa using hp
        | succ i => have := h3 i (by simpa using hi) (by omega); simpa using this

/-- A letter, a letter or digit or stroke. -/
def lettB (c : UInt8) : Bool := decide (97 ≤ c.toNat ∧ c.toNat ≤ 122)
def nameC (c : UInt8) : Bool := lettB c || decide (48 ≤ c.toNat ∧ c.toNat ≤ 57) || decide (c.toNat = 95)
/-- Is a text a name? -/
def nameB (s : ByteArray) : Bool := decide (1 ≤ s.size ∧ s.size ≤ 16) && lettB (s.toList.headD 0) && s.toList.all nameC

structure Col where
  name : ByteArray
  kind : Int
  null : Bool
deriving DecidableEq
structure Rul where
  name : ByteArray
  kind : Int
  cols : List ByteArray
  low : Int
  high : Int
  schema : ByteArray
  table : ByteArray
  key : ByteArray
deriving DecidableEq
structure Tab where
  schema : ByteArray
  name : ByteArray
  owner : ByteArray
  cols : List Col
  rules : List Rul
deriving DecidableEq
structure Sch where
  name : ByteArray
  owner : ByteArray
deriving DecidableEq
structure Objs where
  schemas : List Sch
  tables : List Tab
deriving DecidableEq

def inB (l : List ByteArray) (s : ByteArray) : Bool := l.any fun x => eqT x s
def colI (l : List Col) (s : ByteArray) : Int := idxI (fun c => eqT c.name s) l
def rulI (l : List Rul) (s : ByteArray) : Int := idxI (fun r => eqT r.name s) l
def schI (l : List Sch) (s : ByteArray) : Int := idxI (fun x => eqT x.name s) l
def tabI (l : List Tab) (s t : ByteArray) : Int := idxI (fun x => eqT x.schema s && eqT x.name t) l
/-- How many tables a schema has. -/
def tabN (l : List Tab) (s : ByteArray) : Nat := (l.filter fun x => eqT x.schema s).length
theorem tabN_le (l : List Tab) (s : ByteArray) : tabN l s ≤ l.length := List.length_filter_le _ _
/-- May a column be? -/
def oneB (c : Col) : Bool := nameB c.name && (decide (c.kind = 2) || decide (c.kind = 3))
/-- May columns be, each for itself and behind those ahead of it? -/
def colsAt (l : List Col) (k : Nat) : Bool := match l[k]? with | some c => oneB c && decide (colI (l.take k) c.name < 0) | none => true
def colsB (l : List Col) : Bool := decide (1 ≤ l.length ∧ l.length ≤ 8) && (List.range l.length).all (colsAt l)
/-- A rule's columns, each there and none twice. -/
def fitAt (l : List Col) (n : List ByteArray) (k : Nat) : Bool := match n[k]? with | some s => decide (0 ≤ colI l s) && !inB (n.take k) s | none => true
def bareB (r : Rul) : Bool := eqT r.schema ⟨#[]⟩ && (eqT r.table ⟨#[]⟩ && eqT r.key ⟨#[]⟩)
def kindAt (l : List Col) (i : Int) : Int := match l[i.toNat]? with | some c => c.kind | none => 0
def fitsB (l : List Col) (r : Rul) : Bool :=
  (List.range r.cols.length).all (fitAt l r.cols) && (nameB r.name && decide (0 < r.cols.length)) &&
  (if r.kind = 1 ∨ r.kind = 2 then bareB r && (decide (r.low = 0) && decide (r.high = 0))
   else if r.kind = 3 then bareB r && (decide (r.cols.length = 1) && (decide (kindAt l (colI l (r.cols.headD ⟨#[]⟩)) = 2) && decide (r.low ≤ r.high)))
   else if r.kind = 4 then nameB r.schema && (nameB r.table && (nameB r.key && (decide (r.low = 0) && decide (r.high = 0))))
   else false)
/-- Do two rows of columns go together, place by place? -/
def pairAt (l m : List Col) (n there : List ByteArray) (k : Nat) : Bool :=
  decide (0 ≤ colI l (n.getD k ⟨#[]⟩)) && (decide (0 ≤ colI m (there.getD k ⟨#[]⟩)) && decide (kindAt l (colI l (n.getD k ⟨#[]⟩)) = kindAt m (colI m (there.getD k ⟨#[]⟩))))
def keyE (ts : List Tab) (l : List Col) (r : Rul) : Int :=
  match ts[(tabI ts r.schema r.table).toNat]? with
  | none => 61
  | some t =>
    if tabI ts r.schema r.table < 0 then 61 else
    match t.rules[(rulI t.rules r.key).toNat]? with
    | none => 61
    | some k =>
      if rulI t.rules r.key < 0 then 61 else if k.kind ≠ 2 then 61 else
      if k.cols.length ≠ r.cols.length then 63 else
      if (List.range k.cols.length).all (pairAt l t.cols r.cols k.cols) then 0 else 63
/-- A schema at its place, a table at its. -/
def schAt (o : Objs) (k : Nat) : Bool := match o.schemas[k]? with
  | some s => nameB s.name && (nameB s.owner && ((decide (k = 0) || (match o.schemas[k - 1]? with | some a => ltT a.name s.name | none => true)) && decide (tabN o.tables s.name ≤ 8)))
  | none => true
def ahead (a b : Tab) : Bool := ltT a.schema b.schema || (eqT a.schema b.schema && ltT a.name b.name)
def riseAt (o : Objs) (k : Nat) : Bool := match o.tables[k]?, o.tables[k + 1]? with
  | some a, some b => ahead a b
  | _, _ => true
def rowsB (o : Objs) : Bool := (List.range o.schemas.length).all (schAt o) && ((List.range (o.tables.length - 1)).all (riseAt o) && decide (o.schemas.length ≤ 8))
/-- A rule of a table at its place. -/
def rulAt (o : Objs) (t : Tab) (k : Nat) : Bool := match t.rules[k]? with
  | some r => (decide (k = 0) || (match t.rules[k - 1]? with | some a => ltT a.name r.name | none => true)) && (fitsB t.cols r && (decide (r.kind ≠ 4) || decide (keyE o.tables t.cols r = 0)))
  | none => true
def tabB (o : Objs) (t : Tab) : Bool := decide (0 ≤ schI o.schemas t.schema) && (nameB t.name && (nameB t.owner && (colsB t.cols && decide (t.rules.length ≤ 8)))) && (List.range t.rules.length).all (rulAt o t)
def rightB (o : Objs) : Bool := decide (o.schemas.length ≤ 8) && (decide (o.tables.length ≤ 64) && rowsB o) && o.tables.all (tabB o)
/-- No row of a table's is longer than N. -/
def smallT (N : Nat) (t : Tab) : Prop := t.cols.length ≤ N ∧ t.rules.length ≤ N ∧ ∀ (k : Nat) (h : k < t.rules.length), t.rules[k].cols.length ≤ N
def smallO (N : Nat) (o : Objs) : Prop := o.schemas.length ≤ N ∧ o.tables.length ≤ N ∧ ∀ (k : Nat) (h : k < o.tables.length), smallT N o.tables[k]
end Go.Proofs.Ytkghkioghkapcaa
