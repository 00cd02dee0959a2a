/-
  From a law's walk to its statement: how a struct that came in reads as a thing.
-/
import Derived.Test.YtpepmjkkckgkkaaFrame
import Derived.Test.YtpepmjkkckgkkaaWireS
import Derived.Deep.Slices
import Derived.ChangeArms
import Derived.Deep.MidRow
namespace Go.Proofs.Ytpepmjkkckgkkaa
open Go.ChangeShapes Go.WideShapes Go.ChangeAt Go.RowKit Go.Deep
open Go.ChangeMaps (open_string shut_string)
set_option linter.unusedVariables false

/-- Whatever is handed in at type 't' reads as a thing of the sort 'sh'. -/
def Opens (P : Program) (t : TypeId) (sh : Sh) : Prop :=
  P.cellsOf t = sh.size ∧ ∀ {H : Type} (enc : TypeId × Value → H) (W : World) (spare : Nat → Bool) (held : Bool) (fuel : Nat) (cs : List Value) (x : DataW H × List MemPlace),
    DataW.trod enc P W 0 spare held fuel t cs = some x → ∃ ts, Is W (· < W.heap.size) sh cs ts
section
variable {P : Program} {t : TypeId}
theorem opens_int (k : Bool) (ht : P.underlying t = some (.int .i64)) (hc : P.cellsOf t = 1) : Opens P t (if k then .num else .whole) := by
  have key : ∀ {H : Type} (enc : TypeId × Value → H) (W : World) (spare : Nat → Bool) (held : Bool) (fuel : Nat) (cs : List Value) (x : DataW H × List MemPlace),
      DataW.trod enc P W 0 spare held fuel t cs = some x → ∃ n : Int, -9223372036854775808 ≤ n ∧ n < 9223372036854775808 ∧ cs = [.int .i64 n] := by
    intro H enc W spare held fuel cs x h
    obtain ⟨n, hcs, hw⟩ : ∃ n : Int, cs = [.int .i64 n] ∧ (Lit.int .i64 n).wf = true := by
      cases fuel with
      | zero => simp [DataW.trod] at h
      | succ m =>
        unfold DataW.trod at h
        rw [ht] at h
        split at h <;> simp_all
    have hb := bounds_i64 hw
    exact ⟨n, by omega, by omega, hcs⟩
  cases k
  · refine ⟨hc, fun enc W spare held fuel cs x h => ?_⟩
    obtain ⟨n, h1, h2, h3⟩ := key enc W spare held fuel cs x h
    exact ⟨_, n, h1, h2, h3, rfl⟩
  · refine ⟨hc, fun enc W spare held fuel cs x h => ?_⟩
    obtain ⟨n, h1, h2, h3⟩ := key enc W spare held fuel cs x h
    exact ⟨_, n, h1, h2, h3, rfl⟩
theorem opens_text (ht : P.underlying t = some .string) (hc : P.cellsOf t = 1) : Opens P t .text := by
  refine ⟨hc, fun enc W spare held fuel cs x h => ?_⟩
  obtain ⟨s, hcs, hs⟩ : ∃ s : ByteArray, cs = [.string s] ∧ s.size ≤ maxLen := by
    cases fuel with
    | zero => simp [DataW.trod] at h
    | succ m =>
      unfold DataW.trod at h
      rw [ht] at h
      split at h <;> simp_all
  exact ⟨_, s, hs, hcs, rfl⟩
theorem opens_flag (ht : P.underlying t = some .bool) (hc : P.cellsOf t = 1) : Opens P t .flag := by
  refine ⟨hc, fun enc W spare held fuel cs x h => ?_⟩
  obtain ⟨b, hcs⟩ : ∃ b : Bool, cs = [.bool b] := by
    cases fuel with
    | zero => simp [DataW.trod] at h
    | succ m =>
      unfold DataW.trod at h
      rw [ht] at h
      split at h <;> simp_all
  exact ⟨_, b, hcs, rfl⟩
theorem opens_list {e : TypeId} {sh : Sh} (ht : P.underlying t = some (.slice e)) (hc : P.cellsOf t = 1) (he : Opens P e sh) (hz : 0 < sh.size) : Opens P t (.list sh) := by
  refine ⟨hc, fun {H} enc W spare held fuel cs x h => ?_⟩
  rcases open_slice ht h with ⟨rfl, _⟩ | ⟨a, len, cap, m, n, D, Pl, rfl, hb, hl, hm, hmm, hx, hi⟩
  · exact ⟨_, none, 0, 0, [], rfl, Nat.le_refl _, Nat.zero_le _, rfl, .inl rfl, .inr ⟨[], by omega, rfl, rfl, by simp⟩⟩
  · have hlm : len ≤ m := by rw [hmm]; split <;> omega
    have hel : ∀ i : Nat, i < len → ∃ (c : List Value) (ts : List Tok), W.cells? 0 (a.add (i * sh.size)) sh.size = some c ∧ Is W (· < W.heap.size) sh c ts := by
      intro i hil
      obtain ⟨c, h1, h2⟩ := hi i (by omega)
      rw [he.1] at h1
      obtain ⟨ts, h3⟩ := he.2 enc W spare held n c _ h2
      exact ⟨c, ts, h1, h3⟩
    let F : Nat → List Value := fun i => if h : i < len then (hel i h).choose else []
    let G : Nat → List Tok := fun i => if h : i < len then (hel i h).choose_spec.choose else []
    have hF : ∀ i (h : i < len), W.cells? 0 (a.add (i * sh.size)) sh.size = some (F i) ∧ Is W (· < W.heap.size) sh (F i) (G i) := by
      intro i h
      have := (hel i h).choose_spec.choose_spec
      simp only [F, G, h, dif_pos]
      exact this
    have hrd : RdT W (· < W.heap.size) (some a) sh.size ((List.range len).map F) := by
      by_cases h0 : len = 0
      · subst h0; exact .inl rfl
      · obtain ⟨b, o, s⟩ := a
        have h1 := (hF 0 (by omega)).1
        obtain ⟨_, hcl, hat⟩ := World.cells?_some h1
        have h2 := hat 0 (by omega)
        have hF0 : (F 0)[0]? = some ((F 0)[0]'(by omega)) := List.getElem?_eq_getElem (by omega)
        rw [hF0] at h2
        have hs : s = none := by simpa [Addr.add] using World.cell?_spot h2
        subst hs
        refine .inr ⟨b, o, rfl, ?_, ?_⟩
        · have := World.block_lt_of_cell? W _ h2
          simpa [Addr.add] using this
        · intro i x hx j v hv
          obtain ⟨hil, hxe⟩ : i < len ∧ x = F i := by
            rw [List.getElem?_map] at hx
            by_cases hil : i < len
            · rw [List.getElem?_range hil] at hx; simp at hx; exact ⟨hil, hx.symm⟩
            · rw [List.getElem?_eq_none (by simp; omega)] at hx; cases hx
          subst hxe
          have hh := (hF i hil).1
          obtain ⟨_, hcl, hat⟩ := World.cells?_some hh
          have hj : j < sh.size := by have := (List.getElem?_eq_some_iff.1 hv).1; omega
          have := hat j hj
          rw [hv, Addr.add_mid, Addr.add_mid] at this
          exact this
    by_cases h4 : 4096 < len
    · exact ⟨_, some a, len, cap, (List.range len).map F, rfl, hl, hm, by simp, hrd, .inl ⟨h4, rfl⟩⟩
    · refine ⟨_, some a, len, cap, (List.range len).map F, rfl, hl, hm, by simp, hrd, .inr ⟨(List.range len).map G, by omega, by simp, rfl, ?_⟩⟩
      intro i x u hx hu
      have hil : i < len := by have := (List.getElem?_eq_some_iff.1 hx).1; simpa using this
      rw [List.getElem?_map, List.getElem?_range hil] at hx hu
      simp only [Option.map_some, Option.some.injEq] at hx hu
      subst hx; subst hu
      exact (hF i hil).2
end

/-- The sort of a struct with these fields. -/
def chainSh : List Sh → Sh
  | [] => .num
  | [s] => s
  | s :: r => .two s (chainSh r)
def offB : Array Field → List (TypeId × Sh) → Nat → Nat → Bool
  | fs, [], i, _ => fs.size == i
  | fs, (t, sh) :: r, i, o => (match fs[i]? with | some f => f.type == t && f.offset == o | none => false) && offB fs r (i + 1) (o + sh.size)
theorem opens_chain {P : Program} {H : Type} (enc : TypeId × Value → H) (W : World) (spare : Nat → Bool) (held : Bool) (n : Nat) (fs : Array Field) (all : List Value)
    (hf : ∀ (i : Nat) (f : Field), fs[i]? = some f → ∃ x, DataW.trod enc P W 0 spare held n f.type ((all.drop f.offset).take (P.cellsOf f.type)) = some x) :
    ∀ (l : List (TypeId × Sh)) (i o : Nat), l ≠ [] → offB fs l i o = true → (∀ p ∈ l, Opens P p.1 p.2) → (all.drop o).length = (l.map (·.2.size)).sum → ∃ ts, Is W (· < W.heap.size) (chainSh (l.map (·.2))) (all.drop o) ts
  | [], _, _, h, _, _, _ => absurd rfl h
  | [(t, sh)], i, o, _, hb, ho, hl => by
    simp only [offB, Bool.and_eq_true] at hb
    cases hfi : fs[i]? with
    | none => simp [hfi] at hb
    | some f =>
      simp only [hfi, Bool.and_eq_true, beq_iff_eq] at hb
      obtain ⟨x, hx⟩ := hf i f hfi
      have hop := ho (t, sh) (by simp)
      rw [hb.1.1, hb.1.2, hop.1, List.take_of_length_le (by rw [hl]; simp)] at hx
      exact hop.2 enc W spare held n _ x hx
  | (t, sh) :: q :: r, i, o, _, hb, ho, hl => by
    simp only [offB, Bool.and_eq_true] at hb
    cases hfi : fs[i]? with
    | none => simp [hfi] at hb
    | some f =>
      simp only [hfi, Bool.and_eq_true, beq_iff_eq] at hb
      obtain ⟨x, hx⟩ := hf i f hfi
      have hop := ho (t, sh) (by simp)
      rw [hb.1.1, hb.1.2, hop.1] at hx
      obtain ⟨ts, h1⟩ := hop.2 enc W spare held n _ x hx
      obtain ⟨us, h2⟩ := opens_chain enc W spare held n fs all hf (q :: r) (i + 1) (o + sh.size) (by simp) (by simp only [offB, Bool.and_eq_true]; exact hb.2) (fun p hp => ho p (List.mem_cons_of_mem _ hp)) (by
        rw [← List.drop_drop, List.length_drop, hl]; simp)
      refine ⟨ts ++ us, _, _, ts, us, ?_, rfl, h1, h2⟩
      rw [← List.drop_drop, List.take_append_drop]
theorem opens_struct {P : Program} {t : TypeId} {fs : Array Field} (l : List (TypeId × Sh)) (ht : P.underlying t = some (.struct fs)) (hne : l ≠ []) (hb : offB fs l 0 0 = true) (ho : ∀ p ∈ l, Opens P p.1 p.2)
    (hc : P.cellsOf t = (l.map (·.2.size)).sum) (hz : (chainSh (l.map (·.2))).size = (l.map (·.2.size)).sum) : Opens P t (chainSh (l.map (·.2))) := by
  refine ⟨hc.trans hz.symm, fun {H} enc W spare held fuel cs x h => ?_⟩
  obtain ⟨xs, n, _, hx, hl, hlen, hf⟩ := DataW.trod_struct ht h
  have := opens_chain enc W spare held n fs cs (fun i f hi => by
    have h1 := hf i f hi
    have hil := (Array.getElem?_eq_some_iff.1 hi).1
    rw [List.getElem?_eq_getElem (show i < xs.length by omega)] at h1
    exact ⟨_, h1⟩) l 0 0 hne hb ho (by rw [List.drop_zero, hl, hc])
  rw [List.drop_zero] at this
  exact this
end Go.Proofs.Ytpepmjkkckgkkaa
