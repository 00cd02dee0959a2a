/-
  From a law's walk to its statement's second form: how a struct that came in reads as a thing, whose bytes are bounded by its bulk.
-/
import Derived.Test.YtbhpbiimfcdgaaaWireF
import Derived.Test.YtbhpbiimfcdgaaaWireA
namespace Go.Proofs.Ytbhpbiimfcdgaaa
open Go.ChangeShapes Go.WideShapes Go.ChangeAt Go.RowKit Go.Deep
open Go.ChangeMaps (open_string shut_string)
set_option linter.unusedVariables false

theorem bulk_pos {H : Type} (d : DataW H) : 1 ≤ Rows.uptoBulk d := by
  cases d with
  | lit l => cases l <;> simp [Rows.uptoBulk]
  | nil => simp [Rows.uptoBulk]
  | ptr d => simp [Rows.uptoBulk]
  | slice elems spare => simp [Rows.uptoBulk]
  | agg parts => simp [Rows.uptoBulk]
  | iface t d => simp [Rows.uptoBulk]
  | map entries => simp [Rows.uptoBulk]
  | held h => simp [Rows.uptoBulk]
/-- Whatever is handed in at type 't' reads as a thing of the sort 'sh', of at most eight bytes a piece of its bulk. -/
def OpensB (P : Program) (t : TypeId) (sh : Sh) : Prop :=
  P.cellsOf t = sh.size ∧ ∀ {H : Type} (enc : TypeId × Value → H) (W : World) (spare : Nat → Bool) (held : Bool) (fuel : Nat) (cs : List Value) (x : DataW H × List MemPlace),
    DataW.trod enc P W 0 spare held fuel t cs = some x → ∃ ts, Is W (· < W.heap.size) sh cs ts ∧ wtL ts ≤ 8 * Rows.uptoBulk x.1
section
variable {P : Program} {t : TypeId}
theorem OpensB.of_small {sh : Sh} (h : Opens P t sh) (hs : sh.most ≤ 8) : OpensB P t sh :=
  ⟨h.1, fun enc W spare held fuel cs x hx => by
    obtain ⟨ts, hI⟩ := h.2 enc W spare held fuel cs x hx
    have h1 := hI.fit.most
    have h2 := bulk_pos x.1
    exact ⟨ts, hI, by omega⟩⟩
theorem opensB_int (k : Bool) (ht : P.underlying t = some (.int .i64)) (hc : P.cellsOf t = 1) : OpensB P t (if k then .num else .whole) :=
  OpensB.of_small (opens_int k ht hc) (by cases k <;> decide)
theorem opensB_flag (ht : P.underlying t = some .bool) (hc : P.cellsOf t = 1) : OpensB P t .flag := OpensB.of_small (opens_flag ht hc) (by decide)
theorem opensB_text (ht : P.underlying t = some .string) (hc : P.cellsOf t = 1) : OpensB P t .text := by
  refine ⟨hc, fun enc W spare held fuel cs x h => ?_⟩
  obtain ⟨s, hcs, hs, hx⟩ : ∃ s : ByteArray, cs = [.string s] ∧ s.size ≤ maxLen ∧ x.1 = .lit (.string s.data.toList) := by
    cases fuel with
    | zero => simp [DataW.trod] at h
    | succ m =>
      unfold DataW.trod at h
      rw [ht] at h
      split at h <;> simp_all
      obtain ⟨_, rfl⟩ := h
      rfl
  refine ⟨_, ⟨s, hs, hcs, rfl⟩, ?_⟩
  rw [hx]
  simp only [wtL, Tok.wt, Rows.uptoBulk]
  split <;> omega
theorem wt_flatten_map {H : Type} (G : Nat → List Tok) (D : Nat → DataW H) : ∀ (l : List Nat), (∀ i ∈ l, wtL (G i) ≤ 8 * Rows.uptoBulk (D i)) → wtL (l.map G).flatten ≤ 8 * Rows.uptoBulkAll (l.map D)
  | [], _ => by simp [wtL]
  | i :: l, h => by
    have h1 := h i List.mem_cons_self
    have h2 := wt_flatten_map G D l fun j hj => h j (List.mem_cons_of_mem _ hj)
    simp only [List.map_cons, List.flatten_cons, wtL_append, Rows.uptoBulkAll]
    omega
theorem opensB_list {e : TypeId} {sh : Sh} (ht : P.underlying t = some (.slice e)) (hc : P.cellsOf t = 1) (he : OpensB P e sh) (hz : 0 < sh.size) : OpensB P t (.list sh) := by
  refine ⟨hc, fun {H} enc W spare held fuel cs x h => ?_⟩
  rcases open_slice ht h with ⟨rfl, hx⟩ | ⟨a, len, cap, m, n, D, Pl, rfl, hb, hl, hm, hmm, hx, hi⟩
  · exact ⟨_, ⟨none, 0, 0, [], rfl, Nat.le_refl _, Nat.zero_le _, rfl, .inl rfl, .inr ⟨[], by omega, rfl, rfl, by simp⟩⟩, by rw [hx]; simp [wtL, Tok.wt, Rows.uptoBulk]⟩
  · have hlm : len ≤ m := by rw [hmm]; split <;> omega
    have hel : ∀ i : Nat, i < len → ∃ (c : List Value) (ts : List Tok), W.cells? 0 (a.add (i * sh.size)) sh.size = some c ∧ Is W (· < W.heap.size) sh c ts ∧ wtL ts ≤ 8 * Rows.uptoBulk (D i) := by
      intro i hil
      obtain ⟨c, h1, h2⟩ := hi i (by omega)
      rw [he.1] at h1
      obtain ⟨ts, h3, h4⟩ := he.2 enc W spare held n c _ h2
      exact ⟨c, ts, h1, h3, h4⟩
    let F : Nat → List Value := fun i => if h : i < len then (hel i h).choose else []
    let G : Nat → List Tok := fun i => if h : i < len then (hel i h).choose_spec.choose else []
    have hF : ∀ i (h : i < len), W.cells? 0 (a.add (i * sh.size)) sh.size = some (F i) ∧ Is W (· < W.heap.size) sh (F i) (G i) ∧ wtL (G i) ≤ 8 * Rows.uptoBulk (D i) := by
      intro i h
      have := (hel i h).choose_spec.choose_spec
      simp only [F, G, h, dif_pos]
      exact this
    have hrd : RdT W (· < W.heap.size) (some a) sh.size ((List.range len).map F) := by
      by_cases h0 : len = 0
      · subst h0; exact .inl rfl
      · obtain ⟨b, o, s⟩ := a
        have h1 := (hF 0 (by omega)).1
        obtain ⟨_, hcl, hat⟩ := World.cells?_some h1
        have h2 := hat 0 (by omega)
        have hF0 : (F 0)[0]? = some ((F 0)[0]'(by omega)) := List.getElem?_eq_getElem (by omega)
        rw [hF0] at h2
        have hs : s = none := by simpa [Addr.add] using World.cell?_spot h2
        subst hs
        refine .inr ⟨b, o, rfl, ?_, ?_⟩
        · have := World.block_lt_of_cell? W _ h2
          simpa [Addr.add] using this
        · intro i x hx j v hv
          obtain ⟨hil, hxe⟩ : i < len ∧ x = F i := by
            rw [List.getElem?_map] at hx
            by_cases hil : i < len
            · rw [List.getElem?_range hil] at hx; simp at hx; exact ⟨hil, hx.symm⟩
            · rw [List.getElem?_eq_none (by simp; omega)] at hx; cases hx
          subst hxe
          have hh := (hF i hil).1
          obtain ⟨_, hcl, hat⟩ := World.cells?_some hh
          have hj : j < sh.size := by have := (List.getElem?_eq_some_iff.1 hv).1; omega
          have := hat j hj
          rw [hv, Addr.add_mid, Addr.add_mid] at this
          exact this
    by_cases h4 : 4096 < len
    · exact ⟨_, ⟨some a, len, cap, (List.range len).map F, rfl, hl, hm, by simp, hrd, .inl ⟨h4, rfl⟩⟩, by have := bulk_pos x.1; simp only [wtL, Tok.wt]; omega⟩
    · have hw := wt_flatten_map G D (List.range len) fun i hi => (hF i (List.mem_range.1 hi)).2.2
      refine ⟨_, ⟨some a, len, cap, (List.range len).map F, rfl, hl, hm, by simp, hrd, .inr ⟨(List.range len).map G, by omega, by simp, rfl, ?_⟩⟩, by rw [hx]; simp only [wtL, Tok.wt, Rows.uptoBulk]; omega⟩
      intro i x u hx hu
      have hil : i < len := by have := (List.getElem?_eq_some_iff.1 hx).1; simpa using this
      rw [List.getElem?_map, List.getElem?_range hil] at hx hu
      simp only [Option.map_some, Option.some.injEq] at hx hu
      subst hx; subst hu
      exact (hF i hil).2.1
end

theorem opens_chainB {P : Program} {H : Type} (enc : TypeId × Value → H) (W : World) (spare : Nat → Bool) (held : Bool) (n : Nat) (fs : Array Field) (all : List Value) (xs : List (DataW H × List MemPlace)) (hxl : xs.length = fs.size)
    (hf : ∀ (i : Nat) (f : Field), fs[i]? = some f → ∃ x, xs[i]? = some x ∧ DataW.trod enc P W 0 spare held n f.type ((all.drop f.offset).take (P.cellsOf f.type)) = some x) :
    ∀ (l : List (TypeId × Sh)) (i o : Nat), l ≠ [] → offB fs l i o = true → (∀ p ∈ l, OpensB P p.1 p.2) → (all.drop o).length = (l.map (·.2.size)).sum → ∃ ts, Is W (· < W.heap.size) (chainSh (l.map (·.2))) (all.drop o) ts ∧ wtL ts ≤ 8 * Rows.uptoBulkAll ((xs.drop i).map (·.1))
  | [], _, _, h, _, _, _ => absurd rfl h
  | [(t, sh)], i, o, _, hb, ho, hl => by
    simp only [offB, Bool.and_eq_true] at hb
    cases hfi : fs[i]? with
    | none => simp [hfi] at hb
    | some f =>
      simp only [hfi, Bool.and_eq_true, beq_iff_eq] at hb
      obtain ⟨x, hxi, hx⟩ := hf i f hfi
      have hop := ho (t, sh) (by simp)
      rw [hb.1.1, hb.1.2, hop.1, List.take_of_length_le (by rw [hl]; simp)] at hx
      obtain ⟨ts, h1, h2⟩ := hop.2 enc W spare held n _ x hx
      refine ⟨ts, h1, ?_⟩
      obtain ⟨hil, rfl⟩ := List.getElem?_eq_some_iff.1 hxi
      rw [List.drop_eq_getElem_cons hil, List.map_cons]
      simp only [Rows.uptoBulkAll]
      omega
  | (t, sh) :: q :: r, i, o, _, hb, ho, hl => by
    simp only [offB, Bool.and_eq_true] at hb
    cases hfi : fs[i]? with
    | none => simp [hfi] at hb
    | some f =>
      simp only [hfi, Bool.and_eq_true, beq_iff_eq] at hb
      obtain ⟨x, hxi, hx⟩ := hf i f hfi
      have hop := ho (t, sh) (by simp)
      rw [hb.1.1, hb.1.2, hop.1] at hx
      obtain ⟨ts, h1, w1⟩ := hop.2 enc W spare held n _ x hx
      obtain ⟨us, h2, w2⟩ := opens_chainB enc W spare held n fs all xs hxl hf (q :: r) (i + 1) (o + sh.size) (by simp) (by simp only [offB, Bool.and_eq_true]; exact hb.2) (fun p hp => ho p (List.mem_cons_of_mem _ hp)) (by
        rw [← List.drop_drop, List.length_drop, hl]; simp)
      refine ⟨ts ++ us, ⟨_, _, ts, us, ?_, rfl, h1, h2⟩, ?_⟩
      · rw [← List.drop_drop, List.take_append_drop]
      · obtain ⟨hil, rfl⟩ := List.getElem?_eq_some_iff.1 hxi
        rw [List.drop_eq_getElem_cons hil, List.map_cons, wtL_append]
        simp only [Rows.uptoBulkAll]
        omega
theorem opensB_struct {P : Program} {t : TypeId} {fs : Array Field} (l : List (TypeId × Sh)) (ht : P.underlying t = some (.struct fs)) (hne : l ≠ []) (hb : offB fs l 0 0 = true) (ho : ∀ p ∈ l, OpensB P p.1 p.2)
    (hc : P.cellsOf t = (l.map (·.2.size)).sum) (hz : (chainSh (l.map (·.2))).size = (l.map (·.2.size)).sum) : OpensB P t (chainSh (l.map (·.2))) := by
  refine ⟨hc.trans hz.symm, fun {H} enc W spare held fuel cs x h => ?_⟩
  obtain ⟨xs, n, _, hx, hl, hlen, hf⟩ := DataW.trod_struct ht h
  have := opens_chainB enc W spare held n fs cs xs (by simpa using hlen) (fun i f hi => by
    have h1 := hf i f hi
    have hil := (Array.getElem?_eq_some_iff.1 hi).1
    rw [List.getElem?_eq_getElem (show i < xs.length by omega)] at h1
    exact ⟨_, List.getElem?_eq_getElem (show i < xs.length by omega), h1⟩) l 0 0 hne hb ho (by rw [List.drop_zero, hl, hc])
  rw [List.drop_zero] at this
  obtain ⟨ts, h1, h2⟩ := this
  refine ⟨ts, h1, ?_⟩
  rw [hx]
  simp only [Rows.uptoBulk]
  rw [List.drop_zero] at h2
  omega
/-- A thing whose first part is two things is a thing of all three. -/
theorem Is.assoc {w : World} {S : Nat → Prop} {a b c : Sh} {cs : List Value} {ts : List Tok} (h : Is w S (.two (.two a b) c) cs ts) : Is w S (.two a (.two b c)) cs ts := by
  obtain ⟨_, cc, _, tc, rfl, rfl, ⟨ca, cb, ta, tb, rfl, rfl, h1, h2⟩, h3⟩ := h
  exact ⟨ca, cb ++ cc, ta, tb ++ tc, by simp, by simp, h1, cb, cc, tb, tc, rfl, rfl, h2, h3⟩
theorem Is.right {w : World} {S : Nat → Prop} {a b b' : Sh} {cs : List Value} {ts : List Tok} (hb : ∀ {cs : List Value} {ts : List Tok}, Is w S b cs ts → Is w S b' cs ts) (h : Is w S (.two a b) cs ts) : Is w S (.two a b') cs ts := by
  obtain ⟨ca, cb, ta, tb, h1, h2, h3, h4⟩ := h
  exact ⟨ca, cb, ta, tb, h1, h2, h3, hb h4⟩
theorem OpensB.turn {P : Program} {t : TypeId} {sh sh' : Sh} (h : OpensB P t sh) (hs : sh.size = sh'.size) (hI : ∀ {w : World} {S : Nat → Prop} {cs : List Value} {ts : List Tok}, Is w S sh cs ts → Is w S sh' cs ts) : OpensB P t sh' :=
  ⟨h.1.trans hs, fun enc W spare held fuel cs x hx => by
    obtain ⟨ts, h1, h2⟩ := h.2 enc W spare held fuel cs x hx
    exact ⟨ts, hI h1, h2⟩⟩
/-- A thing that was handed in, with room for its bytes. -/
theorem room_bulk {H : Type} {l : List (DataW H)} (hk : Rows.uptoSmall H l = true) {d : DataW H} (hd : d ∈ l) {ts : List Tok} (h : wtL ts ≤ 8 * Rows.uptoBulk d) : Room [] ts := by
  have h1 : Rows.uptoBulkAll l ≤ 1048576 := of_decide_eq_true hk
  have h2 : Rows.uptoBulk d ≤ Rows.uptoBulkAll l := by
    clear hk h h1
    induction l with
    | nil => cases hd
    | cons x r ih =>
      simp only [Rows.uptoBulkAll]
      rcases List.mem_cons.1 hd with e | e
      · subst e; omega
      · have := ih e; omega
  unfold Room
  simp only [List.length_nil]
  omega
end Go.Proofs.Ytbhpbiimfcdgaaa
