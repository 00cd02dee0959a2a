/-
  The map of places beside a heap of marks: what it says, as mathematics; and how the program's clock lies in memory.
-/
import Derived.Test.YtpepmjkkckgkkaaAlarmT
import Derived.Test.YtpepmjkkckgkkaaSetsB
import Derived.Maps.OwnSet
namespace Go.Proofs.Ytpepmjkkckgkkaa
open Go.RowKit

abbrev key (x : Int) : Lit := .int .i64 x
/-- The map says of each id of the row its place, and knows no other. -/
structure Plc (D : DataW Unit) (L : List Due) : Prop where
  tidy : Maps.Tidy D
  size : Maps.size D = L.length
  has : ∀ id, Maps.has D (key id) = true ↔ ∃ e ∈ L, e.2 = id
  at_ : ∀ k, k < L.length → I64 (Go.Proofs.Ytpepmjkkckgkkaa.at_ L k).2 ∧ D.atKey (key (Go.Proofs.Ytpepmjkkckgkkaa.at_ L k).2) (.lit (key 0)) = .lit (key (k : Int))

theorem key_is {x : Int} : WideAt.IsKeyLit (key x) := by simp [WideAt.IsKeyLit]
theorem key_ne {a b : Int} (h : a ≠ b) : key a ≠ key b := fun e => h (by cases e; rfl)
theorem at_mem {L : List Due} {k : Nat} (h : k < L.length) : at_ L k ∈ L := by rw [at_get h]; exact List.getElem_mem h
theorem due_at {L : List Due} {e : Due} (h : e ∈ L) : ∃ k, k < L.length ∧ at_ L k = e := by
  obtain ⟨k, hk, he⟩ := List.mem_iff_getElem.1 h
  exact ⟨k, hk, by rw [at_get hk]; exact he⟩
theorem Plc.inj {D : DataW Unit} {L : List Due} (h : Plc D L) {i j : Nat} (hi : i < L.length) (hj : j < L.length) (e : (Go.Proofs.Ytpepmjkkckgkkaa.at_ L i).2 = (Go.Proofs.Ytpepmjkkckgkkaa.at_ L j).2) : i = j := by
  have h1 := (h.at_ i hi).2
  have h2 := (h.at_ j hj).2
  rw [e, h2] at h1
  injection h1 with h1
  injection h1 with _ h1
  omega
theorem Plc.nil : Plc (.map []) [] := ⟨Maps.tidy_empty, rfl, fun id => by simp [Maps.has], fun k hk => absurd hk (by simp)⟩
theorem at_last {L : List Due} {x : Due} : at_ (L ++ [x]) L.length = x := by
  rw [at_get (by simp)]
  simp
theorem Plc.push {D : DataW Unit} {L : List Due} {x : Due} (h : Plc D L) (hx : ∀ y ∈ L, y.2 ≠ x.2) (hi : I64 x.2) : Plc (D.put (key x.2) (.lit (key (L.length : Int)))) (L ++ [x]) := by
  have hno : Maps.has D (key x.2) = false := by
    by_cases hh : Maps.has D (key x.2) = true
    · obtain ⟨e, he, h2⟩ := (h.has _).1 hh
      exact absurd h2 (hx e he)
    · simpa using hh
  refine ⟨h.tidy.put key_is _, ?_, fun id => ?_, fun k hk => ?_⟩
  · rw [Maps.size_put h.tidy, hno, h.size]; simp
  · by_cases hid : id = x.2
    · subst hid
      rw [Maps.has_put_same h.tidy.isMap key_is]
      simp
    · rw [Maps.has_put_other (key_ne hid), h.has]
      refine ⟨fun ⟨e, he, h2⟩ => ⟨e, List.mem_append_left _ he, h2⟩, fun ⟨e, he, h2⟩ => ?_⟩
      rcases List.mem_append.1 he with he | he
      · exact ⟨e, he, h2⟩
      · rw [List.mem_singleton.1 he] at h2
        exact absurd h2.symm hid
  · by_cases hkl : k < L.length
    · rw [at_append hkl]
      refine ⟨(h.at_ k hkl).1, ?_⟩
      rw [Maps.atKey_put_other (key_ne (hx _ (at_mem hkl)))]
      exact (h.at_ k hkl).2
    · have : k = L.length := by simp at hk; omega
      subst this
      rw [at_last]
      exact ⟨hi, Maps.atKey_put_same h.tidy.isMap key_is _ _⟩
theorem Plc.pop {D : DataW Unit} {L : List Due} {x : Due} (h : Plc D (L ++ [x])) : Plc (D.del (key x.2)) L := by
  have hne : ∀ y ∈ L, y.2 ≠ x.2 := by
    intro y hy e
    obtain ⟨k, hk, rfl⟩ := due_at hy
    have := h.inj (i := k) (j := L.length) (by simp; omega) (by simp) (by rw [at_append hk, at_last]; exact e)
    omega
  have hs : Maps.has D (key x.2) = true := (h.has _).2 ⟨x, by simp, rfl⟩
  refine ⟨h.tidy.del _, ?_, fun id => ?_, fun k hk => ?_⟩
  · have := Maps.size_del (k := key x.2) h.tidy
    rw [hs, h.size] at this
    simp at this
    exact this
  · by_cases hid : id = x.2
    · subst hid
      rw [Maps.has_del_same]
      simp
      exact fun a hab => hne _ hab rfl
    · rw [Maps.has_del_other (key_ne hid), h.has]
      refine ⟨fun ⟨e, he, h2⟩ => ?_, fun ⟨e, he, h2⟩ => ⟨e, List.mem_append_left _ he, h2⟩⟩
      rcases List.mem_append.1 he with he | he
      · exact ⟨e, he, h2⟩
      · rw [List.mem_singleton.1 he] at h2
        exact absurd h2.symm hid
  · have h1 := h.at_ k (by simp; omega)
    rw [at_append hk] at h1
    refine ⟨h1.1, ?_⟩
    rw [Maps.atKey_del_other (key_ne (hne _ (at_mem hk)))]
    exact h1.2
theorem Plc.swap {D : DataW Unit} {L : List Due} (h : Plc D L) {i j : Nat} (hi : i < L.length) (hj : j < L.length) :
    Plc ((D.put (key (Go.Proofs.Ytpepmjkkckgkkaa.at_ L j).2) (.lit (key (i : Int)))).put (key (Go.Proofs.Ytpepmjkkckgkkaa.at_ L i).2) (.lit (key (j : Int)))) (sw L i j) := by
  have hsi : Maps.has D (key (Go.Proofs.Ytpepmjkkckgkkaa.at_ L j).2) = true := (h.has _).2 ⟨_, at_mem hj, rfl⟩
  have hsj : Maps.has D (key (Go.Proofs.Ytpepmjkkckgkkaa.at_ L i).2) = true := (h.has _).2 ⟨_, at_mem hi, rfl⟩
  have t1 := h.tidy.put (k := key (Go.Proofs.Ytpepmjkkckgkkaa.at_ L j).2) key_is (.lit (key (i : Int)))
  have hh : ∀ id, Maps.has ((D.put (key (Go.Proofs.Ytpepmjkkckgkkaa.at_ L j).2) (.lit (key (i : Int)))).put (key (Go.Proofs.Ytpepmjkkckgkkaa.at_ L i).2) (.lit (key (j : Int)))) (key id) = Maps.has D (key id) := by
    intro id
    by_cases h1 : id = (Go.Proofs.Ytpepmjkkckgkkaa.at_ L i).2
    · subst h1
      rw [Maps.has_put_same t1.isMap key_is, hsj]
    rw [Maps.has_put_other (key_ne h1)]
    by_cases h2 : id = (Go.Proofs.Ytpepmjkkckgkkaa.at_ L j).2
    · subst h2
      rw [Maps.has_put_same h.tidy.isMap key_is, hsi]
    rw [Maps.has_put_other (key_ne h2)]
  refine ⟨t1.put key_is _, ?_, fun id => ?_, fun k hk => ?_⟩
  · have h2 : Maps.has (D.put (key (Go.Proofs.Ytpepmjkkckgkkaa.at_ L j).2) (.lit (key (i : Int)))) (key (Go.Proofs.Ytpepmjkkckgkkaa.at_ L i).2) = true := by
      by_cases e : (Go.Proofs.Ytpepmjkkckgkkaa.at_ L i).2 = (Go.Proofs.Ytpepmjkkckgkkaa.at_ L j).2
      · rw [e, Maps.has_put_same h.tidy.isMap key_is]
      · rw [Maps.has_put_other (key_ne e), hsj]
    rw [Maps.size_put t1, h2, if_pos rfl, Maps.size_put h.tidy, hsi, if_pos rfl, h.size, length_sw]
  · rw [hh, h.has]
    exact ⟨fun ⟨e, he, h2⟩ => ⟨e, (sw_perm hi hj).mem_iff.2 he, h2⟩, fun ⟨e, he, h2⟩ => ⟨e, (sw_perm hi hj).mem_iff.1 he, h2⟩⟩
  · rw [length_sw] at hk
    rw [at_sw hi hj]
    by_cases h1 : k = j
    · subst h1
      rw [if_pos rfl]
      exact ⟨(h.at_ i hi).1, Maps.atKey_put_same t1.isMap key_is _ _⟩
    rw [if_neg h1]
    by_cases h2 : k = i
    · subst h2
      rw [if_pos rfl]
      refine ⟨(h.at_ j hj).1, ?_⟩
      rw [Maps.atKey_put_other (key_ne fun e => h1 (h.inj hj hi e).symm)]
      exact Maps.atKey_put_same h.tidy.isMap key_is _ _
    · rw [if_neg h2]
      refine ⟨(h.at_ k hk).1, ?_⟩
      rw [Maps.atKey_put_other (key_ne fun e => h2 (h.inj hk hi e)), Maps.atKey_put_other (key_ne fun e => h1 (h.inj hk hj e))]
      exact (h.at_ k hk).2
/-- Another time for what stands at a place. -/
theorem Plc.retime {D : DataW Unit} {L : List Due} (h : Plc D L) {i : Nat} (hi : i < L.length) (t : Int) : Plc D (L.set i (t, (Go.Proofs.Ytpepmjkkckgkkaa.at_ L i).2)) := by
  have e : ∀ k, (Go.Proofs.Ytpepmjkkckgkkaa.at_ (L.set i (t, (Go.Proofs.Ytpepmjkkckgkkaa.at_ L i).2)) k).2 = (Go.Proofs.Ytpepmjkkckgkkaa.at_ L k).2 := by
    intro k
    rw [at_set hi]
    by_cases hk : k = i
    · subst hk; rw [if_pos rfl]
    · rw [if_neg hk]
  refine ⟨h.tidy, by rw [List.length_set]; exact h.size, fun id => ?_, fun k hk => ?_⟩
  · rw [h.has]
    constructor
    · rintro ⟨x, hx, rfl⟩
      obtain ⟨k, hk, rfl⟩ := due_at hx
      exact ⟨_, at_mem (k := k) (by rw [List.length_set]; exact hk), e k⟩
    · rintro ⟨x, hx, rfl⟩
      obtain ⟨k, hk, rfl⟩ := due_at hx
      rw [List.length_set] at hk
      exact ⟨_, at_mem hk, (e k).symm⟩
  · rw [e]
    exact h.at_ k (by rw [List.length_set] at hk; exact hk)

theorem ownsMap_tight {w : World} {P : Program} {k : TypeId} {R : Value → Option (DataW Unit × List MemPlace)} {b n : Nat} {D : DataW Unit} (h : w.ownsMap P k R b n D) : w.ownsMap P k R b (Maps.size D) D := by
  obtain ⟨es, clock, hb, F, _, rfl⟩ := h
  exact ⟨es, clock, hb, F, by simp [Maps.size, length_sorted], rfl⟩

/-- How the program's clock lies in block c: what it holds is L; its blocks are among those of F. -/
structure Rep (w : World) (F : Nat → Prop) (c : Nat) (v mv : Value) (L : List Due) : Prop where
  box : w.heap[c]? = some (.cells #[v, mv] 51 (0, 0))
  own : w.ownsRow 0 56 2 v L.length (its L)
  fc : F c
  fv : ∀ g, v.ownBlock = some g → F g ∧ g ≠ c
  lt : ∀ k, F k → k < w.heap.size
  map : (mv = .map none ∧ L = []) ∨ ∃ b D, mv = .map (some b) ∧ F b ∧ b ≠ c ∧ (∀ g, v.ownBlock = some g → g ≠ b) ∧ w.ownsMap Try.prog 3 (plainElem Try.prog 3) b L.length D ∧ Plc D L
  short : L.length ≤ 200000
/-- .. in some way. -/
def Held (w : World) (F : Nat → Prop) (c : Nat) (L : List Due) : Prop := ∃ v mv, Rep w F c v mv L

theorem map_keeps {w w' : World} {S : Nat → Prop} {P : Program} {k : TypeId} {R : Value → Option (DataW Unit × List MemPlace)} {b n : Nat} {D : DataW Unit} (h : w.ownsMap P k R b n D) (hk : Keeps S w w') (hb : S b) : w'.ownsMap P k R b n D := by
  obtain ⟨es, clock, he, r⟩ := h
  exact ⟨es, clock, hk.row he hb, r⟩
theorem Rep.keep {w w' : World} {F : Nat → Prop} {c : Nat} {v mv : Value} {L : List Due} (h : Rep w F c v mv L) (hk : Keeps F w w') : Rep w' F c v mv L where
  box := hk.row h.box h.fc
  own := own_keeps h.own hk fun g hg => (h.fv g hg).1
  fc := h.fc
  fv := h.fv
  lt := fun k hf => Nat.lt_of_lt_of_le (h.lt k hf) hk.size
  map := by
    rcases h.map with h1 | ⟨b, D, h1, h2, h3, h4, h5, h6⟩
    · exact .inl h1
    · exact .inr ⟨b, D, h1, h2, h3, h4, map_keeps h5 hk h2, h6⟩
  short := h.short
theorem Held.keep {w w' : World} {F : Nat → Prop} {c : Nat} {L : List Due} (h : Held w F c L) (hk : Keeps F w w') : Held w' F c L := by
  obtain ⟨v, mv, h⟩ := h
  exact ⟨v, mv, h.keep hk⟩
theorem Held.below {w w' : World} {F : Nat → Prop} {c : Nat} {L : List Due} (h : Held w F c L) (hb : Below w.heap.size w w') : Held w' F c L := by
  obtain ⟨v, mv, h⟩ := h
  exact ⟨v, mv, h.keep (Keeps.of_below hb h.lt)⟩
theorem Held.short {w : World} {F : Nat → Prop} {c : Nat} {L : List Due} (h : Held w F c L) : L.length ≤ 200000 := by
  obtain ⟨v, mv, h⟩ := h
  exact h.short
theorem Moved.refl {F : Nat → Prop} {w : World} : Moved F F w w := ⟨Keeps.refl, fun _ h => .inl h⟩
theorem Moved.trans {F F' F'' : Nat → Prop} {w w' w'' : World} (h : Moved F F' w w') (h' : Moved F' F'' w' w'') : Moved F F'' w w'' := by
  have h1 := h.1
  have h2 := h'.1
  refine ⟨⟨h2.os.trans h1.os, h2.tape.trans h1.tape, h2.output.trans h1.output, Nat.le_trans h1.size h2.size, fun k hk hf => ?_⟩, fun k hk => ?_⟩
  · refine (h2.block k (Nat.lt_of_lt_of_le hk h1.size) fun hf' => ?_).trans (h1.block k hk hf)
    rcases h.2 k hf' with h | h
    · exact hf h
    · omega
  · rcases h'.2 k hk with h3 | h3
    · exact h.2 k h3
    · exact .inr (Nat.le_trans h1.size h3)
theorem Moved.of_below {F : Nat → Prop} {w w' : World} (h : Below w.heap.size w w') : Moved F F w w' := ⟨⟨h.os, h.tape, h.output, h.size, fun k hk _ => h.block k hk⟩, fun _ h => .inl h⟩
end Go.Proofs.Ytpepmjkkckgkkaa
