/-
  The program's reader, by contract: things.
-/
import Derived.Test.YtpepmjkkckgkkaaWireR
namespace Go.Proofs.Ytpepmjkkckgkkaa
open Go.RowKit
set_option linter.unusedVariables false
variable {B : Nat}

theorem parse_fst {a b : Sh} {bs : List UInt8} (h : parse a bs = none) : parse (.two a b) bs = none := by simp only [parse, h]
theorem parse_snd {a b : Sh} {bs r : List UInt8} {ta : List Tok} (h : parse a bs = some (ta, r)) (h2 : parse b r = none) : parse (.two a b) bs = none := by simp only [parse, h, h2]
theorem parse_both {a b : Sh} {bs r r' : List UInt8} {ta tb : List Tok} (h : parse a bs = some (ta, r)) (h2 : parse b r = some (tb, r')) : parse (.two a b) bs = some (ta ++ tb, r') := by simp only [parse, h, h2]

/-- A whole struct is stored into its box. -/
theorem wpList_store_row {P : Program} {ops : Array Oper} {rest : List Oper} {op : Oper} {a : Act} {w : World} {Q : Exit → Act → World → Prop} (hgd : op.guard = none) (ty : TypeId) (x y : Operand) (ho : op.op = .store ty x y)
    (g : Nat) (t : TypeId) (c c' : Array Value) (hx : a.eval x = .pointer (some ⟨g, 0, none⟩)) (hy : a.eval y = .agg c') (hg : w.heap[g]? = some (.cells c t (0, 0)))
    (hi : (P.info? ty).map (·.size) = some c'.size) (hs : c.size = c'.size) (h1 : c'.all (·.oneCell') = true)
    (h : wpList P ops Q rest (a.put op.dst undef) (w.setRow g c')) : wpList P ops Q (op :: rest) a w := by
  refine wpList_plain hgd fun _ hK => ?_
  unfold Oper.wp execOp
  simp only [ho, hx, hy, Instr.storeAt, Instr.sureAddr, Sem.run_bind, Sem.run_pure, Result.andThen_ok, run_storeVar_row w g t ty c c' hg hi hs h1]
  exact hK _ _ h
theorem Keeps.setRow {S : Nat → Prop} {w w' : World} (h : Keeps S w w') {g : Nat} (hg : w.heap.size ≤ g) (c : Array Value) : Keeps S w (w'.setRow g c) :=
  ⟨h.os, h.tape, h.output, by simpa using h.size, fun k hk hs => (setRow_other w' g k c (by omega)).trans (h.block k hk hs)⟩

theorem setRow_keeps (w : World) (g : Nat) (c : Array Value) : Keeps (fun b => g + 1 ≤ b) w (w.setRow g c) :=
  ⟨rfl, rfl, rfl, by simp, fun k _ hk => setRow_other w g k c (by omega)⟩
theorem is_shut {w : World} {g : Nat} {sh : Sh} {cs : List Value} {ts : List Tok} (c : Array Value) (h : Is w (New (g + 1) w.heap.size) sh cs ts) : Is (w.setRow g c) (New g (w.setRow g c).heap.size) sh cs ts :=
  h.keep (fun k hk => ⟨by have := hk.1; omega, by simpa using hk.2⟩) ((setRow_keeps w g c).mono fun k hk => hk.1)
/-- What was read earlier, seen from later on. -/
theorem is_later {w w1 w2 : World} {p lo : Nat} {sh : Sh} {cs : List Value} {ts : List Tok} (h : Is w1 (New w.heap.size w1.heap.size) sh cs ts) (hk : Keeps (Off p) w1 w2) (hp : p < lo) (hlo : lo ≤ w.heap.size) : Is w2 (New lo w2.heap.size) sh cs ts :=
  h.keep (fun k hk' => ⟨by have := hk'.1; omega, Nat.lt_of_lt_of_le hk'.2 hk.size⟩) (hk.mono fun k hk' => by have := hk'.1; unfold Off; omega)

theorem parseN_stop {q : List UInt8 → Option (List Tok × List UInt8)} {k : Nat} {bs : List UInt8} (h : parseN q k bs = none) : ∀ n, k ≤ n → parseN q n bs = none := by
  intro n hn
  induction n with
  | zero => obtain rfl : k = 0 := by omega
            exact h
  | succ n ih =>
    rcases Nat.eq_or_lt_of_le hn with rfl | hlt
    · exact h
    · simp only [parseN, ih (by omega)]
theorem parseN_step {q : List UInt8 → Option (List Tok × List UInt8)} {k : Nat} {bs r r' : List UInt8} {ts t : List Tok} (h : parseN q k bs = some (ts, r)) (h2 : q r = some (t, r')) : parseN q (k + 1) bs = some (ts ++ t, r') := by simp only [parseN, h, h2]
theorem parseN_fail {q : List UInt8 → Option (List Tok × List UInt8)} {k n : Nat} {bs r : List UInt8} {ts : List Tok} (h : parseN q k bs = some (ts, r)) (h2 : q r = none) (hn : k < n) : parseN q n bs = none :=
  parseN_stop (k := k + 1) (by simp only [parseN, h, h2]) n hn
theorem parse_list_none {e : Sh} {bs : List UInt8} (h : pNum 4096 bs = none) : parse (.list e) bs = none := by simp only [parse, h]
theorem parse_list_fail {e : Sh} {bs r : List UInt8} {n : Nat} (h : pNum 4096 bs = some (n, r)) (h2 : parseN (parse e) n r = none) : parse (.list e) bs = none := by simp only [parse, h, h2]
theorem parse_list_some {e : Sh} {bs r r' : List UInt8} {n : Nat} {ts : List Tok} (h : pNum 4096 bs = some (n, r)) (h2 : parseN (parse e) n r = some (ts, r')) : parse (.list e) bs = some (.many n :: ts, r') := by simp only [parse, h, h2]

/-- What may hold an element of the row 'o' that is being made: a block of the call's own that is not the row's. -/
def Apart (lo : Nat) (w : World) (o : Value) (b : Nat) : Prop := lo ≤ b ∧ b < w.heap.size ∧ some b ≠ o.ownBlock
/-- The row that is being made: its elements read as 'tss'. -/
def Row (w : World) (lo : Nat) (T : TypeId) (sh : Sh) (o : Value) (k : Nat) (tss : List (List Tok)) : Prop :=
  ∃ xss : List (List Value), xss.length = k ∧ tss.length = k ∧ w.ownsRow lo T sh.size o k xss.flatten ∧ (∀ x ∈ xss, x.length = sh.size) ∧
    ∀ (i : Nat) (x : List Value) (t : List Tok), xss[i]? = some x → tss[i]? = some t → Is w (Apart lo w o) sh x t
theorem Row.nil (w : World) (lo : Nat) (T : TypeId) (sh : Sh) : Row w lo T sh (.slice none 0 0) 0 [] :=
  ⟨[], rfl, rfl, World.ownsRow_nil _ _ _ _, by simp, by simp⟩
theorem own_off {w w' : World} {p lo : Nat} {T : TypeId} {sz : Nat} {o : Value} {k : Nat} {cs : List Value} (h : w.ownsRow lo T sz o k cs) (hk : Keeps (Off p) w w') (hp : p < lo) : w'.ownsRow lo T sz o k cs := by
  refine ⟨h.1, ?_⟩
  rcases h.2 with h0 | ⟨g, cap, cur, rfl, a1, a2, a3⟩
  · exact .inl h0
  · exact .inr ⟨g, cap, cur, rfl, a1, hk.row a2 (by unfold Off; omega), a3⟩
/-- One element more, read behind 'w' and laid behind the row. -/
theorem Row.more {w w1 w3 : World} {lo p : Nat} {T : TypeId} {sh : Sh} {o o3 : Value} {k : Nat} {tss : List (List Tok)} {x : List Value} {t : List Tok} (ob : Obj) {xss : List (List Value)} (h1 : xss.length = k) (h2 : tss.length = k) (h3 : w.ownsRow lo T sh.size o k xss.flatten) (h4 : ∀ x ∈ xss, x.length = sh.size)
    (h5 : ∀ (i : Nat) (x : List Value) (t : List Tok), xss[i]? = some x → tss[i]? = some t → Is w (Apart lo w o) sh x t)
    (hK : Keeps (Off p) w w1) (hp : p < lo) (hlo : lo ≤ w.heap.size) (hI : Is w1 (New w.heap.size w1.heap.size) sh x t)
    (hown : w3.ownsRow lo T sh.size o3 (k + 1) (xss.flatten ++ x))
    (hg : (w1.alloc ob).grownBy w3 o.ownBlock) (hat : o3.ownBlock = o.ownBlock ∨ o3.ownBlock = some (w1.heap.size + 1)) : Row w3 lo T sh o3 (k + 1) (tss ++ [t]) := by
  have hob : ∀ j, o.ownBlock = some j → j < w.heap.size := fun j hj => (World.ownsRow.lt h3 j hj).2
  have hsz : w.heap.size ≤ w1.heap.size := hK.size
  have hsz3 : w1.heap.size + 1 ≤ w3.heap.size := by simpa using hg.size
  have hS : ∀ b, b < w1.heap.size → some b ≠ o.ownBlock → some b ≠ o3.ownBlock := by
    intro b hb hne
    rcases hat with e | e
    · rw [e]; exact hne
    · rw [e]; simp; omega
  have K13 : Keeps (fun b => b < w1.heap.size ∧ some b ≠ o.ownBlock) w1 w3 := ((Keeps.refl.alloc ob).trans (Keeps.of_grown hg fun k hk h => h.2 hk.symm))
  refine ⟨xss ++ [x], by simp [h1], by simp [h2], by simpa using hown, ?_, ?_⟩
  · intro y hy
    rcases List.mem_append.1 hy with hy | hy
    · exact h4 y hy
    · rw [List.mem_singleton.1 hy]; exact hI.size
  · intro i y u hy hu
    by_cases hi : i < k
    · rw [List.getElem?_append_left (by omega)] at hy hu
      have hI0 := h5 i y u hy hu
      refine hI0.keep (fun b hb => ⟨hb.1, by have := hb.2.1; omega, hS b (by have := hb.2.1; omega) hb.2.2⟩) ?_
      exact (hK.mono fun b hb => by have := hb.1; unfold Off; omega).trans (K13.mono fun b hb => ⟨by have := hb.2.1; omega, hb.2.2⟩)
    · have hik : i = k := by
        have := (List.getElem?_eq_some_iff.1 hy).1
        simp at this; omega
      subst hik
      rw [List.getElem?_append_right (by omega), h1, Nat.sub_self] at hy
      rw [List.getElem?_append_right (by omega), h2, Nat.sub_self] at hu
      simp only [List.getElem?_cons_zero, Option.some.injEq] at hy hu
      subst hy; subst hu
      refine hI.keep (fun b hb => ⟨by have := hb.1; omega, by have := hb.2; omega, hS b hb.2 fun e => by have := hob b e.symm; have := hb.1; omega⟩) (K13.mono fun b hb => ⟨hb.2, fun e => by have := hob b e.symm; have := hb.1; omega⟩)
/-- The row, done: a list. -/
theorem Row.list {w : World} {lo : Nat} {T : TypeId} {sh : Sh} {o : Value} {k : Nat} {tss : List (List Tok)} (h : Row w lo T sh o k tss) (hk : k ≤ 4096) (hz : 0 < sh.size) : ∃ a cap, o = .slice a k cap ∧ Is w (New lo w.heap.size) (.list sh) [o] (.many k :: tss.flatten) := by
  obtain ⟨xss, h1, h2, h3, h4, h5⟩ := h
  have hcell : ∀ (xss : List (List Value)), (∀ x ∈ xss, x.length = sh.size) → ∀ i x, xss[i]? = some x → ∀ j v, x[j]? = some v → xss.flatten[i * sh.size + j]? = some v := by
    intro xss
    induction xss with
    | nil => intro _ i x hx; simp at hx
    | cons y l ih =>
      intro hl i x hx j v hv
      have hy := hl y List.mem_cons_self
      cases i with
      | zero =>
        simp only [List.getElem?_cons_zero, Option.some.injEq] at hx
        subst hx
        have hj := (List.getElem?_eq_some_iff.1 hv).1
        rw [List.flatten_cons, List.getElem?_append_left (by omega)]
        simpa using hv
      | succ i =>
        rw [List.getElem?_cons_succ] at hx
        have := ih (fun x hx => hl x (List.mem_cons_of_mem _ hx)) i x hx j v hv
        rw [List.flatten_cons, List.getElem?_append_right (by rw [hy, Nat.succ_mul]; omega), hy]
        have e : (i + 1) * sh.size + j - sh.size = i * sh.size + j := by rw [Nat.succ_mul]; omega
        rw [e]; exact this
  have hAp : ∀ b, Apart lo w o b → New lo w.heap.size b := fun b hb => ⟨hb.1, hb.2.1⟩
  rcases h3.2 with ⟨rfl, rfl⟩ | ⟨g, cap, cur, rfl, a1, a2, a3, a4, a5, a6⟩
  · obtain rfl := List.eq_nil_of_length_eq_zero h1
    obtain rfl := List.eq_nil_of_length_eq_zero h2
    exact ⟨none, 0, rfl, none, 0, 0, [], rfl, Nat.le_refl _, Nat.zero_le _, rfl, .inl rfl, .inr ⟨[], hk, rfl, rfl, by simp⟩⟩
  · refine ⟨_, cap, rfl, _, k, cap, xss, rfl, a3, a4, h1, .inr ⟨g, 0, rfl, ⟨a1, lt_of_block a2⟩, ?_⟩, .inr ⟨tss, hk, h2, rfl, fun i x t hx ht => (h5 i x t hx ht).keep hAp Keeps.refl⟩⟩
    intro i x hx j v hv
    have h6 := hcell xss h4 i x hx j v hv
    rw [← a6, List.getElem?_take] at h6
    split at h6
    · rw [cell_of_row w g _ cur T (0, 0) a2, Nat.zero_add]
      simpa using h6
    · cases h6

theorem keeps_grown {S : Nat → Prop} {w w2 w3 : World} {row : Option Nat} (h : Keeps S w w2) (hg : w2.grownBy w3 row) (hr : ∀ j, row = some j → w.heap.size ≤ j) : Keeps S w w3 :=
  ⟨hg.os.trans h.os, hg.tape.trans h.tape, hg.output.trans h.output, Nat.le_trans h.size hg.size, fun k hk hs => (hg.block k (Nat.lt_of_lt_of_le hk h.size) (fun e => by have := hr k e.symm; omega)).trans (h.block k hk hs)⟩
theorem cell_fresh (w : World) (cs : List Value) (t : TypeId) : ∀ j u, cs[j]? = some u → (w.alloc (.cells cs.toArray t)).cell? ((⟨w.heap.size, 0, none⟩ : Addr).add j) = some u := by
  intro j u hu
  rw [Addr.add_mid, Nat.zero_add, cell_of_row _ _ j _ _ _ (heap_alloc_new w _)]
  simpa using hu

theorem info_string : (Try.prog.info? 9).map (fun i => (i.zero, i.size, i.bytes)) = some (some (.string ByteArray.empty), 1, 16) := by kernel_rfl
theorem info_int : (Try.prog.info? 3).map (fun i => (i.zero, i.size, i.bytes)) = some (some (.int .i64 0), 1, 8) := by kernel_rfl
end Go.Proofs.Ytpepmjkkckgkkaa
