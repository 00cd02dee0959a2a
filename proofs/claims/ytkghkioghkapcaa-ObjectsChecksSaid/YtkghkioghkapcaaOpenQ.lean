/-
  What comes in, read as lists of things, whatever their length; each list is of 2^48 elements at most.
-/
import Derived.Test.YtkghkioghkapcaaObjR
import Derived.Deep.Slices
import Derived.ChangeArms
import Derived.ChangeAt
import Derived.Deep.MidRow
import Derived.SizedLaws
namespace Go.Proofs.Ytkghkioghkapcaa
open Go.ChangeShapes Go.WideShapes Go.ChangeAt Go.RowKit Go.Deep
set_option linter.unusedVariables false

theorem mem_weightsEach {H : Type} {P : Program} {n : Nat} : ∀ {ts : List TypeId} {ds : List (DataW H)} {i : Nat} {t : TypeId} {d : DataW H}, ts[i]? = some t → ds[i]? = some d → n ∈ d.weights P t → n ∈ DataW.weightsEach P ts ds
  | [], _, i, _, _, h, _, _ => by simp at h
  | _ :: _, [], i, _, _, _, h, _ => by simp at h
  | t :: ts, d :: ds, 0, _, _, h1, h2, h => by
    simp only [List.getElem?_cons_zero, Option.some.injEq] at h1 h2
    subst h1; subst h2
    unfold DataW.weightsEach
    exact List.mem_append_left _ h
  | t :: ts, d :: ds, i + 1, _, _, h1, h2, h => by
    simp only [List.getElem?_cons_succ] at h1 h2
    unfold DataW.weightsEach
    exact List.mem_append_right _ (mem_weightsEach h1 h2 h)
theorem mem_weightsAll {H : Type} {P : Program} {e : TypeId} {n : Nat} : ∀ {ds : List (DataW H)} {d : DataW H}, d ∈ ds → n ∈ d.weights P e → n ∈ DataW.weightsAll P e ds
  | [], _, h, _ => by cases h
  | d :: ds, x, h, hn => by
    unfold DataW.weightsAll
    rcases List.mem_cons.1 h with rfl | h
    · exact List.mem_append_left _ hn
    · exact List.mem_append_right _ (mem_weightsAll h hn)

/-- Whatever is handed in at type t, each of its rows within the form's reach, reads as a Q of something. -/
def OpensQ {α : Type} (P : Program) (t : TypeId) (sz : Nat) (Q : World → (Nat → Prop) → List Value → α → Prop) (R : α → Prop) : Prop :=
  P.cellsOf t = sz ∧ ∀ {H : Type} (enc : TypeId × Value → H) (W : World) (spare : Nat → Bool) (held : Bool) (fuel : Nat) (cs : List Value) (x : DataW H × List MemPlace),
    DataW.trod enc P W 0 spare held fuel t cs = some x → (∀ n ∈ x.1.weights P t, n ≤ reachBytes) → ∃ y, Q W (· < W.heap.size) cs y ∧ R y
section
variable {P : Program} {t : TypeId}
theorem opensQ_int (ht : P.underlying t = some (.int .i64)) (hc : P.cellsOf t = 1) : OpensQ P t 1 (fun _ _ cs (n : Int) => cs = [.int .i64 n]) (fun n => (Lit.int .i64 n).wf = true) := by
  refine ⟨hc, fun enc W spare held fuel cs x h _ => ?_⟩
  obtain ⟨n, hcs, hw⟩ : ∃ n : Int, cs = [.int .i64 n] ∧ (Lit.int .i64 n).wf = true := by
    cases fuel with
    | zero => simp [DataW.trod] at h
    | succ m =>
      unfold DataW.trod at h
      rw [ht] at h
      split at h <;> simp_all
  exact ⟨n, hcs, hw⟩
theorem opensQ_text (ht : P.underlying t = some .string) (hc : P.cellsOf t = 1) : OpensQ P t 1 (fun _ _ => strP) (fun s => s.size ≤ maxLen) := by
  refine ⟨hc, fun enc W spare held fuel cs x h _ => ?_⟩
  obtain ⟨s, hcs, hs⟩ : ∃ s : ByteArray, cs = [.string s] ∧ s.size ≤ maxLen := by
    cases fuel with
    | zero => simp [DataW.trod] at h
    | succ m =>
      unfold DataW.trod at h
      rw [ht] at h
      split at h <;> simp_all
  exact ⟨s, hcs, hs⟩
theorem opensQ_flag (ht : P.underlying t = some .bool) (hc : P.cellsOf t = 1) : OpensQ P t 1 (fun _ _ cs (b : Bool) => cs = [.bool b]) (fun _ => True) := by
  refine ⟨hc, fun enc W spare held fuel cs x h _ => ?_⟩
  obtain ⟨b, hcs⟩ : ∃ b : Bool, cs = [.bool b] := by
    cases fuel with
    | zero => simp [DataW.trod] at h
    | succ m =>
      unfold DataW.trod at h
      rw [ht] at h
      split at h <;> simp_all
  exact ⟨b, hcs, trivial⟩
theorem opensQ_list {α : Type} {Q : World → (Nat → Prop) → List Value → α → Prop} {R : α → Prop} {e : TypeId} {sz : Nat} (ht : P.underlying t = some (.slice e)) (hc : P.cellsOf t = 1) (he : OpensQ P e sz Q R) (hz : 0 < sz) (hby : 0 < P.bytesOf e) :
    OpensQ P t 1 (fun W S cs l => ∃ v, cs = [v] ∧ Lst W S (Q W S) sz v l) (fun l => l.length ≤ 2 ^ 48 ∧ ∀ y ∈ l, R y) := by
  refine ⟨hc, fun {H} enc W spare held fuel cs x h hw => ?_⟩
  rcases open_slice ht h with ⟨rfl, _⟩ | ⟨a, len, cap, m, n, D, Pl, rfl, hb, hl, hm, hmm, hx, hi⟩
  · exact ⟨[], ⟨_, rfl, none, 0, [], rfl, Nat.le_refl _, Nat.zero_le _, .inl rfl, rfl, fun i x y h => by simp at h⟩, by simp, by simp⟩
  · have hlm : len ≤ m := by rw [hmm]; split <;> omega
    have hW : ∀ i, i < len → ∀ k ∈ (D i).weights P e, k ≤ reachBytes := fun i hil k hk => hw k (by
      rw [hx]
      unfold DataW.weights
      rw [ht]
      simp only
      refine List.mem_cons_of_mem _ (List.mem_append_left _ (mem_weightsAll (d := D i) ?_ hk))
      exact List.mem_map.2 ⟨i, List.mem_range.2 hil, rfl⟩)
    have hlen48 : len ≤ 2 ^ 48 := by
      have := hw (((List.range len).map D).length + ((List.range (m - len)).map fun j => D (len + j)).length |> (· * P.bytesOf e)) (by
        rw [hx]
        unfold DataW.weights
        rw [ht]
        simp)
      simp only [List.length_map, List.length_range] at this
      have h2 := Nat.mul_le_mul_left (len + (m - len)) hby
      unfold reachBytes at this
      omega
    have hel : ∀ i : Nat, i < len → ∃ (c : List Value) (y : α), W.cells? 0 (a.add (i * sz)) sz = some c ∧ Q W (· < W.heap.size) c y ∧ R y := by
      intro i hil
      obtain ⟨c, h1, h2⟩ := hi i (by omega)
      rw [he.1] at h1
      obtain ⟨y, h3, h4⟩ := he.2 enc W spare held n c _ h2 (hW i hil)
      exact ⟨c, y, h1, h3, h4⟩
    let F : Nat → List Value := fun i => if h : i < len then (hel i h).choose else []
    let G : List α := (List.finRange len).map fun i => (hel i.1 i.2).choose_spec.choose
    have hG : G.length = len := by simp [G]
    have hF : ∀ i (h : i < len), W.cells? 0 (a.add (i * sz)) sz = some (F i) ∧ Q W (· < W.heap.size) (F i) (G[i]'(by omega)) ∧ R (G[i]'(by omega)) := by
      intro i h
      have := (hel i h).choose_spec.choose_spec
      simp only [F, h, dif_pos, G, List.getElem_map, List.getElem_finRange]
      exact this
    have hrd : RdT W (· < W.heap.size) (some a) sz ((List.range len).map F) := by
      by_cases h0 : len = 0
      · subst h0; exact .inl rfl
      · obtain ⟨b, o, s⟩ := a
        have h1 := (hF 0 (by omega)).1
        obtain ⟨_, hcl, hat⟩ := World.cells?_some h1
        have h2 := hat 0 (by omega)
        have hF0 : (F 0)[0]? = some ((F 0)[0]'(by omega)) := List.getElem?_eq_getElem (by omega)
        rw [hF0] at h2
        have hs : s = none := by simpa [Addr.add] using World.cell?_spot h2
        subst hs
        refine .inr ⟨b, o, rfl, ?_, ?_⟩
        · have := World.block_lt_of_cell? W _ h2
          simpa [Addr.add] using this
        · intro i x hx j v hv
          obtain ⟨hil, hxe⟩ : i < len ∧ x = F i := by
            rw [List.getElem?_map] at hx
            by_cases hil : i < len
            · rw [List.getElem?_range hil] at hx; simp at hx; exact ⟨hil, hx.symm⟩
            · rw [List.getElem?_eq_none (by simp; omega)] at hx; cases hx
          subst hxe
          have hh := (hF i hil).1
          obtain ⟨_, hcl, hat⟩ := World.cells?_some hh
          have hj : j < sz := by have := (List.getElem?_eq_some_iff.1 hv).1; omega
          have := hat j hj
          rw [hv, Addr.add_mid, Addr.add_mid] at this
          exact this
    refine ⟨G, ⟨_, rfl, some a, cap, (List.range len).map F, by rw [hG], by omega, hm, hrd, by simp [hG], ?_⟩, by omega, ?_⟩
    · intro i x y hx hy
      have hil : i < len := by have := (List.getElem?_eq_some_iff.1 hx).1; simpa using this
      rw [List.getElem?_map, List.getElem?_range hil] at hx
      simp only [Option.map_some, Option.some.injEq] at hx
      subst hx
      obtain ⟨_, rfl⟩ := List.getElem?_eq_some_iff.1 hy
      exact (hF i hil).2.1
    · intro y hy
      obtain ⟨i, hi, rfl⟩ := List.mem_iff_getElem.1 hy
      exact (hF i (by omega)).2.2
theorem field_of {α : Type} {Q : World → (Nat → Prop) → List Value → α → Prop} {R : α → Prop} {H : Type} {enc : TypeId × Value → H} {W : World} {spare : Nat → Bool} {held : Bool} {fuel : Nat} {cs : List Value} {x : DataW H × List MemPlace} {fs : Array Field}
    (ht : P.underlying t = some (.struct fs)) (h : DataW.trod enc P W 0 spare held fuel t cs = some x) (hw : ∀ n ∈ x.1.weights P t, n ≤ reachBytes) {ft : TypeId} {sz : Nat} (he : OpensQ P ft sz Q R) (i o : Nat) {f : Field} (hf : fs[i]? = some f) (hft : f.type = ft) (ho : f.offset = o) :
    ∃ y, Q W (· < W.heap.size) ((cs.drop o).take sz) y ∧ R y := by
  obtain ⟨xs, n, _, hx, hl, hlen, hfs⟩ := DataW.trod_struct ht h
  have h1 := hfs i f hf
  have hil := (Array.getElem?_eq_some_iff.1 hf).1
  have hxi : xs[i]? = some (xs[i]'(by omega)) := List.getElem?_eq_getElem (by omega)
  rw [hxi, hft, ho, he.1] at h1
  refine he.2 enc W spare held n _ _ h1 fun k hk => hw k ?_
  rw [hx]
  unfold DataW.weights
  rw [ht]
  simp only
  refine mem_weightsEach (i := i) (t := ft) (d := xs[i].1) ?_ ?_ hk
  · rw [List.getElem?_map, Array.getElem?_toList, hf, ← hft]; rfl
  · rw [List.getElem?_map, hxi]; rfl
theorem len_struct {H : Type} {enc : TypeId × Value → H} {W : World} {spare : Nat → Bool} {held : Bool} {fuel : Nat} {cs : List Value} {x : DataW H × List MemPlace} {fs : Array Field}
    (ht : P.underlying t = some (.struct fs)) (h : DataW.trod enc P W 0 spare held fuel t cs = some x) : cs.length = P.cellsOf t := by
  obtain ⟨xs, n, _, hx, hl, hlen, hfs⟩ := DataW.trod_struct ht h
  exact hl
theorem OpensQ.turn {α : Type} {sz : Nat} {Q Q' : World → (Nat → Prop) → List Value → α → Prop} {R R' : α → Prop} (h : OpensQ P t sz Q R) (hQ : ∀ W S cs y, Q W S cs y → Q' W S cs y) (hR : ∀ y, R y → R' y) : OpensQ P t sz Q' R' :=
  ⟨h.1, fun enc W spare held fuel cs x hx hw => by obtain ⟨y, h1, h2⟩ := h.2 enc W spare held fuel cs x hx hw; exact ⟨y, hQ _ _ _ _ h1, hR _ h2⟩⟩
end

theorem oq_string : OpensQ Try.prog 9 1 (fun _ _ => strP) (fun _ => True) := (opensQ_text Try.underlying9 (by kernel_rfl)).turn (fun _ _ _ _ h => h) fun _ _ => trivial
theorem oq_int : OpensQ Try.prog 3 1 (fun _ _ cs (n : Int) => cs = [.int .i64 n]) (fun _ => True) := (opensQ_int Try.underlying3 (by kernel_rfl)).turn (fun _ _ _ _ h => h) fun _ _ => trivial
theorem oq_bool : OpensQ Try.prog 4 1 (fun _ _ cs (b : Bool) => cs = [.bool b]) (fun _ => True) := opensQ_flag Try.underlying4 (by kernel_rfl)
theorem oq_vkind : OpensQ Try.prog 39 1 (fun _ _ cs (n : Int) => cs = [.int .i64 n]) (fun _ => True) := (opensQ_int Try.underlying39 (by kernel_rfl)).turn (fun _ _ _ _ h => h) fun _ _ => trivial
theorem oq_rkind : OpensQ Try.prog 53 1 (fun _ _ cs (n : Int) => cs = [.int .i64 n]) (fun _ => True) := (opensQ_int Try.underlying53 (by kernel_rfl)).turn (fun _ _ _ _ h => h) fun _ _ => trivial
theorem oq_strings : OpensQ Try.prog 54 1 (fun W S cs (l : List ByteArray) => ∃ v, cs = [v] ∧ Lst W S strP 1 v l) (fun l => l.length ≤ 2 ^ 48) :=
  (opensQ_list Try.underlying54 (by kernel_rfl) oq_string (by decide) (of_decide_eq_true (by kernel_rfl))).turn (fun _ _ _ _ h => h) fun _ h => h.1
theorem oq_col : OpensQ Try.prog 41 3 (fun _ _ => colP) (fun _ => True) := by
  have ht := Try.underlying41
  refine ⟨by kernel_rfl, fun enc W spare held fuel cs x h hw => ?_⟩
  have hl : cs.length = 3 := (len_struct ht h).trans (by kernel_rfl)
  obtain ⟨a, b, c, rfl⟩ : ∃ a b c, cs = [a, b, c] := by match cs, hl with | [a, b, c], _ => exact ⟨a, b, c, rfl⟩
  obtain ⟨y0, h0, _⟩ := field_of ht h hw oq_string 0 0 rfl rfl rfl
  obtain ⟨y1, h1, _⟩ := field_of ht h hw oq_vkind 1 1 rfl rfl rfl
  obtain ⟨y2, h2, _⟩ := field_of ht h hw oq_bool 2 2 rfl rfl rfl
  simp only [strP, List.drop, List.take, List.cons.injEq, and_true] at h0 h1 h2
  subst h0 h1 h2
  exact ⟨⟨y0, y1, y2⟩, rfl, trivial⟩
theorem oq_sch : OpensQ Try.prog 75 2 (fun _ _ => schP) (fun _ => True) := by
  have ht := Try.underlying75
  refine ⟨by kernel_rfl, fun enc W spare held fuel cs x h hw => ?_⟩
  have hl : cs.length = 2 := (len_struct ht h).trans (by kernel_rfl)
  obtain ⟨a, b, rfl⟩ : ∃ a b, cs = [a, b] := by match cs, hl with | [a, b], _ => exact ⟨a, b, rfl⟩
  obtain ⟨y0, h0, _⟩ := field_of ht h hw oq_string 0 0 rfl rfl rfl
  obtain ⟨y1, h1, _⟩ := field_of ht h hw oq_string 1 1 rfl rfl rfl
  simp only [strP, List.drop, List.take, List.cons.injEq, and_true] at h0 h1
  subst h0 h1
  exact ⟨⟨y0, y1⟩, rfl, trivial⟩
theorem oq_rul : OpensQ Try.prog 56 8 rulP (fun r => r.cols.length ≤ 2 ^ 48) := by
  have ht := Try.underlying56
  refine ⟨by kernel_rfl, fun enc W spare held fuel cs x h hw => ?_⟩
  have hl : cs.length = 8 := (len_struct ht h).trans (by kernel_rfl)
  obtain ⟨c0, c1, c2, c3, c4, c5, c6, c7, rfl⟩ : ∃ c0 c1 c2 c3 c4 c5 c6 c7, cs = [c0, c1, c2, c3, c4, c5, c6, c7] := by match cs, hl with | [c0, c1, c2, c3, c4, c5, c6, c7], _ => exact ⟨c0, c1, c2, c3, c4, c5, c6, c7, rfl⟩
  obtain ⟨y0, h0, _⟩ := field_of ht h hw oq_string 0 0 rfl rfl rfl
  obtain ⟨y1, h1, _⟩ := field_of ht h hw oq_rkind 1 1 rfl rfl rfl
  obtain ⟨y2, ⟨v, h2, hL⟩, h48⟩ := field_of ht h hw oq_strings 2 2 rfl rfl rfl
  obtain ⟨y3, h3, _⟩ := field_of ht h hw oq_int 3 3 rfl rfl rfl
  obtain ⟨y4, h4, _⟩ := field_of ht h hw oq_int 4 4 rfl rfl rfl
  obtain ⟨y5, h5, _⟩ := field_of ht h hw oq_string 5 5 rfl rfl rfl
  obtain ⟨y6, h6, _⟩ := field_of ht h hw oq_string 6 6 rfl rfl rfl
  obtain ⟨y7, h7, _⟩ := field_of ht h hw oq_string 7 7 rfl rfl rfl
  simp only [strP, List.drop, List.take, List.cons.injEq, and_true] at h0 h1 h2 h3 h4 h5 h6 h7
  subst h0 h1 h2 h3 h4 h5 h6 h7
  exact ⟨⟨y0, y1, y2, y3, y4, y5, y6, y7⟩, ⟨_, rfl, hL⟩, h48⟩
theorem oq_cols : OpensQ Try.prog 32 1 (fun W S cs (l : List Col) => ∃ v, cs = [v] ∧ Lst W S colP 3 v l) (fun l => l.length ≤ 2 ^ 48) :=
  (opensQ_list Try.underlying32 (by kernel_rfl) oq_col (by decide) (of_decide_eq_true (by kernel_rfl))).turn (fun _ _ _ _ h => h) fun _ h => h.1
theorem oq_ruls : OpensQ Try.prog 33 1 (fun W S cs (l : List Rul) => ∃ v, cs = [v] ∧ Lst W S (rulP W S) 8 v l) (fun l => l.length ≤ 2 ^ 48 ∧ ∀ r ∈ l, r.cols.length ≤ 2 ^ 48) :=
  opensQ_list Try.underlying33 (by kernel_rfl) oq_rul (by decide) (of_decide_eq_true (by kernel_rfl))
theorem oq_tab : OpensQ Try.prog 35 5 tabP (smallT (2 ^ 48)) := by
  have ht := Try.underlying35
  refine ⟨by kernel_rfl, fun enc W spare held fuel cs x h hw => ?_⟩
  have hl : cs.length = 5 := (len_struct ht h).trans (by kernel_rfl)
  obtain ⟨c0, c1, c2, c3, c4, rfl⟩ : ∃ c0 c1 c2 c3 c4, cs = [c0, c1, c2, c3, c4] := by match cs, hl with | [c0, c1, c2, c3, c4], _ => exact ⟨c0, c1, c2, c3, c4, rfl⟩
  obtain ⟨y0, h0, _⟩ := field_of ht h hw oq_string 0 0 rfl rfl rfl
  obtain ⟨y1, h1, _⟩ := field_of ht h hw oq_string 1 1 rfl rfl rfl
  obtain ⟨y2, h2, _⟩ := field_of ht h hw oq_string 2 2 rfl rfl rfl
  obtain ⟨y3, ⟨vc, h3, hc⟩, hc48⟩ := field_of ht h hw oq_cols 3 3 rfl rfl rfl
  obtain ⟨y4, ⟨vr, h4, hr⟩, hr48, hr'⟩ := field_of ht h hw oq_ruls 4 4 rfl rfl rfl
  simp only [strP, List.drop, List.take, List.cons.injEq, and_true] at h0 h1 h2 h3 h4
  subst h0 h1 h2 h3 h4
  exact ⟨⟨y0, y1, y2, y3, y4⟩, ⟨_, _, rfl, hc, hr⟩, hc48, hr48, fun k hk => hr' _ (List.getElem_mem hk)⟩
theorem oq_schs : OpensQ Try.prog 23 1 (fun W S cs (l : List Sch) => ∃ v, cs = [v] ∧ Lst W S schP 2 v l) (fun l => l.length ≤ 2 ^ 48) :=
  (opensQ_list Try.underlying23 (by kernel_rfl) oq_sch (by decide) (of_decide_eq_true (by kernel_rfl))).turn (fun _ _ _ _ h => h) fun _ h => h.1
theorem oq_tabs : OpensQ Try.prog 24 1 (fun W S cs (l : List Tab) => ∃ v, cs = [v] ∧ Lst W S (tabP W S) 5 v l) (fun l => l.length ≤ 2 ^ 48 ∧ ∀ t ∈ l, smallT (2 ^ 48) t) :=
  opensQ_list Try.underlying24 (by kernel_rfl) oq_tab (by decide) (of_decide_eq_true (by kernel_rfl))
theorem oq_obj : OpensQ Try.prog 26 2 objP (smallO (2 ^ 48)) := by
  have ht := Try.underlying26
  refine ⟨by kernel_rfl, fun enc W spare held fuel cs x h hw => ?_⟩
  have hl : cs.length = 2 := (len_struct ht h).trans (by kernel_rfl)
  obtain ⟨c0, c1, rfl⟩ : ∃ c0 c1, cs = [c0, c1] := by match cs, hl with | [c0, c1], _ => exact ⟨c0, c1, rfl⟩
  obtain ⟨y0, ⟨vs, h0, hs⟩, hs48⟩ := field_of ht h hw oq_schs 0 0 rfl rfl rfl
  obtain ⟨y1, ⟨vt, h1, htt⟩, ht48, ht'⟩ := field_of ht h hw oq_tabs 1 1 rfl rfl rfl
  simp only [List.drop, List.take, List.cons.injEq, and_true] at h0 h1
  subst h0 h1
  exact ⟨⟨y0, y1⟩, ⟨_, _, rfl, hs, htt⟩, hs48, ht48, fun k hk => ht' _ (List.getElem_mem hk)⟩
/-- What an argument reads as, its rows within the form's reach. -/
theorem openQ {α : Type} {P : Program} {t : TypeId} {sz : Nat} {Q : World → (Nat → Prop) → List Value → α → Prop} {R : α → Prop} (h : OpensQ P t sz Q R) {H : Type} {enc : TypeId × Value → H} {W : World} {spare : Nat → Bool} {held : Bool} {cs : List Value} {x : DataW H × List MemPlace}
    (hx : ∃ m, DataW.trod enc P W 0 spare held m t cs = some x) {ts : List TypeId} {ds : List (DataW H)} (hz : (DataW.weightsEach P ts ds).all (· ≤ reachBytes) = true) {j : Nat} (ht : ts[j]? = some t) (hd : ds[j]? = some x.1) : ∃ y, Q W (· < W.heap.size) cs y ∧ R y := by
  obtain ⟨m, hm⟩ := hx
  exact h.2 enc W spare held m cs x hm fun n hn => by simpa using List.all_eq_true.1 hz n (mem_weightsEach ht hd hn)
end Go.Proofs.Ytkghkioghkapcaa
