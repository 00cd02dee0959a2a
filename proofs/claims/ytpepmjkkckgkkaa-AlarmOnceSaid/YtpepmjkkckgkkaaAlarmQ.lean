/-
  The program's clock: what its calls ask of the heap, as mathematics and in memory; the queue of container/heap.
-/
import Derived.Test.YtpepmjkkckgkkaaAlarmL4
import Derived.Test.YtpepmjkkckgkkaaAlarmL5
import Derived.Test.YtpepmjkkckgkkaaHeapV
namespace Go.Proofs.Ytpepmjkkckgkkaa
open Go.RowKit

/-- The queue at c, behind the world w0 in which its blocks were those of F0. -/
def QL (w0 : World) (F0 : Nat → Prop) (c : Nat) (w : World) (L : List Due) : Prop := ∃ F, Held w F c L ∧ Moved F0 F w0 w
def BL (_ : World) (x : Due) (v : Value) : Prop := v = .iface 56 (.agg #[.int .i64 x.2, .int .i64 x.1]) ∧ I64 x.2

theorem does_line (w0 : World) (F0 : Nat → Prop) (c : Nat) : Does ⟨c, 0, none⟩ (QL w0 F0 c) (fun _ _ => True) BL where
  refl := fun _ => trivial
  trans := fun _ _ => trivial
  less := by
    rintro w L i j ⟨F, h, m⟩ hi hj
    exact (line_less w F c L i j h hi hj).mono fun e w' ⟨he, hb⟩ => ⟨he, ⟨F, h.below hb, m.trans (Moved.of_below hb)⟩, trivial⟩
  swap := by
    rintro w L i j ⟨F, h, m⟩ hi hj
    exact (line_swap w F c L i j h hi hj).mono fun e w' ⟨he, h', m'⟩ => ⟨he, ⟨F, h', m.trans m'⟩, trivial⟩
  len := by
    rintro w L ⟨F, h, m⟩
    refine (line_len w F c L h).mono fun e w' ⟨he, hw⟩ => ?_
    subst hw
    exact ⟨he, ⟨F, h, m⟩, trivial⟩
  push := by
    rintro w L x v ⟨F, h, m⟩ ⟨rfl, hx⟩ hl hno
    exact (line_push w F c L x h hx hno hl).mono fun e w' ⟨he, F', h', m'⟩ => ⟨he, ⟨F', h', m.trans m'⟩, trivial⟩
  pop := by
    rintro w L x ⟨F, h, m⟩
    have hx : I64 x.2 := by
      obtain ⟨v, mv, h⟩ := h
      rcases h.map with ⟨_, h1⟩ | ⟨b, D, _, _, _, _, _, h1⟩
      · simp at h1
      · have := (h1.at_ L.length (by simp)).1
        rw [at_last] at this
        exact this
    exact (line_pop w F c L x h).mono fun e w' ⟨he, h', m'⟩ => ⟨_, he, ⟨rfl, hx⟩, ⟨F, h', m.trans m'⟩, trivial⟩
  short := by
    rintro w L ⟨F, h, m⟩
    have := h.short
    omega

theorem hasD_perm {id : Int} {L S : List Due} (p : L.Perm S) : hasD id L = hasD id S := by
  have h : hasD id L = true ↔ hasD id S = true := by
    unfold hasD
    rw [List.any_eq_true, List.any_eq_true]
    exact ⟨fun ⟨e, he, h⟩ => ⟨e, p.mem_iff.1 he, h⟩, fun ⟨e, he, h⟩ => ⟨e, p.mem_iff.2 he, h⟩⟩
  cases h1 : hasD id L <;> cases h2 : hasD id S <;> simp_all
theorem hasD_iff {id : Int} {L : List Due} : hasD id L = true ↔ ∃ e ∈ L, e.2 = id := by
  unfold hasD
  rw [List.any_eq_true]
  exact ⟨fun ⟨e, he, h⟩ => ⟨e, he, by simpa using h⟩, fun ⟨e, he, h⟩ => ⟨e, he, by simpa using h⟩⟩
theorem offD_perm {id : Int} {L S : List Due} (p : L.Perm S) : (offD id L).Perm (offD id S) := p.filter _
theorem offD_none {id : Int} {L : List Due} (h : ∀ y ∈ L, y.2 ≠ id) : offD id L = L := offD_no (by
  cases hh : hasD id L with
  | false => rfl
  | true => obtain ⟨e, he, h2⟩ := hasD_iff.1 hh; exact absurd h2 (h e he))
/-- A mark is set for another time in its place: one is out, the new one is in. -/
theorem set_perm {x : Due} : ∀ {L : List Due} {k : Nat}, Once L → k < L.length → (at_ L k).2 = x.2 → (L.set k x).Perm (x :: offD x.2 L)
  | [], k, _, h, _ => by simp at h
  | b :: t, 0, ho, _, e => by
    obtain ⟨h1, h2⟩ := List.pairwise_cons.1 ho
    have hb : b.2 = x.2 := e
    have hn : ∀ y ∈ t, y.2 ≠ x.2 := fun y hy e2 => h1 y hy (hb.trans e2.symm)
    have : offD x.2 (b :: t) = t := by
      have e1 := offD_none hn
      unfold offD at *
      rw [List.filter_cons, e1]
      simp [hb]
    rw [this]
    exact .refl _
  | b :: t, k + 1, ho, hk, e => by
    obtain ⟨h1, h2⟩ := List.pairwise_cons.1 ho
    have hk' : k < t.length := by simpa using hk
    have e' : (at_ t k).2 = x.2 := e
    have hb : b.2 ≠ x.2 := by rw [← e']; exact h1 _ (at_mem hk')
    have ih := set_perm (x := x) h2 hk' e'
    have e1 : offD x.2 (b :: t) = b :: offD x.2 t := by unfold offD; rw [List.filter_cons]; simp [hb]
    rw [List.set_cons_succ, e1]
    exact (List.Perm.cons b ih).trans (List.Perm.swap x b _)
theorem taken_off {L L' S : List Due} {x : Due} (hp : L.Perm S) (ho : Once S) (h : L.Perm (x :: L')) : L'.Perm (offD x.2 S) := by
  have h1 : Once (x :: L') := once_perm ho (hp.symm.trans h)
  obtain ⟨h2, _⟩ := List.pairwise_cons.1 h1
  have e : offD x.2 (x :: L') = L' := by
    have e1 := offD_none (L := L') (id := x.2) fun y hy e => h2 y hy e.symm
    unfold offD at *
    rw [List.filter_cons, e1]
    simp
  have := offD_perm (id := x.2) (h.symm.trans hp)
  rw [e] at this
  exact this

/-- The program's clock. -/
def KP (w : World) (F : Nat → Prop) (p : Addr) (S : List Due) : Prop := ∃ c L, p = ⟨c, 0, none⟩ ∧ Held w F c L ∧ L.Perm S ∧ Heap L L.length ∧ Rise S ∧ Once S

/-- What the map tells of an id. -/
theorem held_look {w : World} {F : Nat → Prop} {c : Nat} {L : List Due} (h : Held w F c L) {id : Int} (hi : I64 id) :
    ∃ v mv, Rep w F c v mv L ∧ ∃ k : Nat, (Instr.lookup 47 mv (.int .i64 id) true).run Try.prog w = .ok (.tuple #[.int .i64 (k : Int), .bool (hasD id L)]) w ∧ (hasD id L = true → k < L.length ∧ (at_ L k).2 = id) := by
  obtain ⟨v, mv, h⟩ := h
  refine ⟨v, mv, h, ?_⟩
  have K := Maps.int_keyed (P := Try.prog) Try.underlying3
  have hz : (zeroValue 3).run Try.prog w = .ok (.int .i64 0) w := by kernel_rfl
  have hkey := Maps.keyOf_int_mk (P := Try.prog) Try.underlying3 hi
  rcases h.map with ⟨rfl, rfl⟩ | ⟨b, D, rfl, _, _, _, hm, hp⟩
  · refine ⟨0, ?_, fun h => by simp [hasD] at h⟩
    rw [Maps.look_nil true K Try.underlying47 hz hkey]
    rfl
  · have w0 : (Lit.int .i64 0).wf = true := by decide
    obtain ⟨u, ps, hrun, hv⟩ := hm.look_ok K Try.underlying47 hz (plainElem_int Try.underlying3 w0) hkey
    have hhas : Maps.has D (key id) = hasD id L := by
      have h1 : Maps.has D (key id) = true ↔ hasD id L = true := (hp.has id).trans hasD_iff.symm
      cases h2 : Maps.has D (key id) <;> cases h3 : hasD id L <;> simp_all
    obtain ⟨n, rfl, hn, _⟩ := plainElem_int_inv Try.underlying3 hv
    have hat : D.atKey (key id) (.lit (key 0)) = .lit (key n) := congrArg Prod.fst hn
    rw [hhas] at hrun
    by_cases hd : hasD id L = true
    · obtain ⟨e, he, h2⟩ := hasD_iff.1 hd
      obtain ⟨k, hk, rfl⟩ := due_at he
      have h3 := (hp.at_ k hk).2
      rw [h2, hat] at h3
      injection h3 with h3
      injection h3 with _ h3
      subst h3
      exact ⟨k, hrun, fun _ => ⟨hk, h2⟩⟩
    · have hno : Maps.has D (key id) = false := by rw [hhas]; simpa using hd
      rw [Maps.atKey_of_not_has hno] at hat
      injection hat with hat
      injection hat with _ hat
      subst hat
      exact ⟨0, hrun, fun h => absurd h hd⟩
/-- Another time is stored for what stands at a place. -/
theorem rep_retime {w : World} {F : Nat → Prop} {c g n cap : Nat} {mv : Value} {L : List Due} (h : Rep w F c (.slice (some ⟨g, 0, none⟩) n cap) mv L) {k : Nat} (hk : k < L.length) (t : Int) {id : Int} (hid : (at_ L k).2 = id) :
    Held (w.setCell ⟨g, k * 2 + 1, none⟩ (.int .i64 t)) F c (L.set k (t, id)) ∧ Moved F F w (w.setCell ⟨g, k * 2 + 1, none⟩ (.int .i64 t)) := by
  obtain ⟨a, cap', he, _⟩ := h.slice
  cases he
  have hf := h.fv g rfl
  have hits : its (L.set k (t, id)) = (its L).set (k * 2 + 1) (.int .i64 t) := by
    rw [its_set]
    congr 1
    have h1 := its_get L k hk 0 (by omega)
    have h2 : (its L)[k * 2]? = some (.int .i64 id) := by
      rw [← hid, at_get hk]
      exact h1
    obtain ⟨hl, h3⟩ := List.getElem?_eq_some_iff.1 h2
    apply List.ext_getElem (by simp)
    intro i h4 h5
    rw [List.getElem_set]
    split
    · rename_i e; subst e; exact h3.symm
    · rfl
  have hown := (h.own.stored (k * 2 + 1) (.int .i64 t)).1
  rw [← hits] at hown
  have mv' : Moved F F w (w.setCell ⟨g, k * 2 + 1, none⟩ (.int .i64 t)) := Moved.setCell hf.1 _
  have hkc : Keeps (· ≠ g) w (w.setCell ⟨g, k * 2 + 1, none⟩ (.int .i64 t)) := Keeps.refl.setCell (by simp) _
  refine ⟨⟨_, _, hkc.row h.box hf.2.symm, by rw [List.length_set]; exact hown, h.fc, h.fv, fun j hj => Nat.lt_of_lt_of_le (h.lt j hj) mv'.1.size, ?_, by rw [List.length_set]; exact h.short⟩, mv'⟩
  rcases h.map with ⟨_, h1⟩ | ⟨b, D, rfl, h2, h3, h4, h5, h6⟩
  · subst h1; simp at hk
  · refine .inr ⟨b, D, rfl, h2, h3, h4, ?_, ?_⟩
    · rw [List.length_set]
      exact map_keeps (S := (· ≠ g)) h5 hkc (h4 g rfl).symm
    · have := h6.retime hk t
      rw [hid] at this
      exact this
end Go.Proofs.Ytpepmjkkckgkkaa
