/-
  The program's 'put' of each thing, by contract.
-/
import Derived.Test.YtbhpbiimfcdgaaaGreatWireC
import Derived.Deep.MidRow
namespace Go.Proofs.YtbhpbiimfcdgaaaGreat
open Go.RowKit
set_option linter.unusedVariables false

/-- A box reads as its cells. -/
theorem box_range {w : World} {b : Nat} {cs : List Value} {t : TypeId} (h : w.heap[b]? = some (.cells cs.toArray t (0, 0))) : w.rangeAt b 0 cs :=
  fun j v hv => by rw [Nat.zero_add, cell_of_row w b j cs.toArray t (0, 0) h]; simpa using hv

/-- What the program's Put answers: the bytes, in a row of the call's own; or the first fault. -/
def PutPost (w : World) (ts : List Tok) (e : Ending) (w' : World) : Prop :=
  Below w.heap.size w w' ∧ ((firstF ts = 0 ∧ ∃ v, e = .returned (.tuple #[v, .int .i64 0]) ∧ w'.ownsRow w.heap.size 5 1 v (bytesL ts).length (cb (bytesL ts))) ∨
    (firstF ts ≠ 0 ∧ e = .returned (.tuple #[.slice none 0 0, .int .i64 (firstF ts)])))

theorem own_base {w : World} {b b' : Nat} {e : TypeId} {sz : Nat} {v : Value} {n : Nat} {cs : List Value} (h : w.ownsRow b e sz v n cs) (hb : b' ≤ b) : w.ownsRow b' e sz v n cs := by
  refine ⟨h.1, ?_⟩
  rcases h.2 with h | ⟨g, cap, cur, rfl, a1, a2⟩
  · exact .inl h
  · exact .inr ⟨g, cap, cur, rfl, Nat.le_trans hb a1, a2⟩
theorem PutPost.boxed {w w' : World} {o : Obj} {ts : List Tok} {e : Ending} (h : PutPost (w.alloc o) ts e w') : PutPost w ts e w' := by
  obtain ⟨hb, h⟩ := h
  have hz : w.heap.size ≤ (w.alloc o).heap.size := by simp
  refine ⟨((Below.refl _ _).alloc (Nat.le_refl _) o).trans (hb.mono hz), ?_⟩
  rcases h with ⟨F, v, he, ho⟩ | h
  · exact .inl ⟨F, v, he, own_base ho hz⟩
  · exact .inr h

/-- The blocks that stay while a thing is laid: all but the writer's. -/
def But (n p : Nat) (k : Nat) : Prop := k < n ∧ k ≠ p

/-- Five new blocks. -/
abbrev five (w : World) (o0 o1 o2 o3 o4 : Obj) : World := ((((w.alloc o0).alloc o1).alloc o2).alloc o3).alloc o4
theorem five_size (w : World) (o0 o1 o2 o3 o4 : Obj) : (five w o0 o1 o2 o3 o4).heap.size = w.heap.size + 5 := by simp
theorem five_at (w : World) (o0 o1 o2 o3 o4 : Obj) : (five w o0 o1 o2 o3 o4).heap[w.heap.size]? = some o0 ∧ (five w o0 o1 o2 o3 o4).heap[w.heap.size + 1]? = some o1 ∧ (five w o0 o1 o2 o3 o4).heap[w.heap.size + 1 + 1]? = some o2 ∧
    (five w o0 o1 o2 o3 o4).heap[w.heap.size + 1 + 1 + 1]? = some o3 ∧ (five w o0 o1 o2 o3 o4).heap[w.heap.size + 1 + 1 + 1 + 1]? = some o4 := by
  unfold five World.alloc
  simp only [Array.getElem?_push, Array.size_push]
  refine ⟨?_, ?_, ?_, ?_, ?_⟩
  · rw [if_neg (by omega), if_neg (by omega), if_neg (by omega), if_neg (by omega), if_pos trivial]
  · rw [if_neg (by omega), if_neg (by omega), if_neg (by omega), if_pos trivial]
  · rw [if_neg (by omega), if_neg (by omega), if_pos trivial]
  · rw [if_neg (by omega), if_pos trivial]
  · rw [if_pos trivial]
theorem five_keeps (w : World) (o0 o1 o2 o3 o4 : Obj) (S : Nat → Prop) : Keeps S w (five w o0 o1 o2 o3 o4) := ((((Keeps.refl.alloc _).alloc _).alloc _).alloc _).alloc _
theorem five_wr (w : World) (o0 o1 o3 o4 : Obj) : Wr (five w o0 o1 (.cells #[.slice none 0 0] 175) o3 o4) (But (w.heap.size + 5) (w.heap.size + 1 + 1)) (w.heap.size + 1 + 1) [] :=
  ⟨fun k hk => by rw [five_size]; exact hk.1, fun h => h.2 rfl, _, (five_at w _ _ _ _ _).2.2.1, World.ownsRow_nil _ _ _ _, fun k hk => by cases hk⟩
theorem put_below {w w' : World} {o0 o1 o2 o3 o4 : Obj} {v : Value} (h : Keeps (But (w.heap.size + 5) (w.heap.size + 1 + 1)) (five w o0 o1 o2 o3 o4) w') : Below w.heap.size w (w'.setCell ⟨w.heap.size + 1 + 1 + 1 + 1, 0, none⟩ v) :=
  ((five_keeps w o0 o1 o2 o3 o4 (· < w.heap.size)).trans ((h.mono fun k hk => ⟨by omega, by omega⟩).setCell (p := ⟨w.heap.size + 1 + 1 + 1 + 1, 0, none⟩) (by simp; omega) v)).below (Nat.le_refl _) fun _ h => h
theorem wr_row {w : World} {n p : Nat} {xs : List UInt8} {m : Nat} (h : Wr w (But m p) p xs) (hn : n ≤ m) (hnp : n ≤ p) {r : Nat} (hr : But m p r) (u : Value) :
    ∃ v, (w.setCell ⟨r, 0, none⟩ u).cell? ⟨p, 0, none⟩ = some v ∧ (w.setCell ⟨r, 0, none⟩ u).ownsRow n 5 1 v xs.length (cb xs) := by
  obtain ⟨h1, h2, v, h3, h4, h5⟩ := h
  have e : ∀ k, k ≠ r → (w.setCell ⟨r, 0, none⟩ u).heap[k]? = w.heap[k]? := fun k hk => Below.heap_setCell _ _ _ _ hk
  refine ⟨v, by simpa using cell_of_row _ p 0 _ _ _ ((e p (fun h => hr.2 h.symm)).trans h3), ?_⟩
  refine ⟨h4.1, ?_⟩
  rcases h4.2 with h | ⟨g, cap, cur, rfl, a1, a2, a3⟩
  · exact .inl h
  · have hg := h5 g rfl
    have hg2 : n ≤ g := by
      rcases Nat.lt_or_ge g n with hlt | hge
      · exact absurd ⟨by omega, by omega⟩ hg.1
      · exact hge
    exact .inr ⟨g, cap, cur, rfl, hg2, (e g (fun h => hg.1 (h ▸ hr))).trans a2, a3⟩

/-- Behind 'caught' in 'put'. -/
def PutMid (w : World) (ts : List Tok) (e : Ending) (w' : World) : Prop :=
  ∃ c, e = .returned (.int .i64 c) ∧ c = firstF ts ∧ Below w.heap.size w w' ∧ w'.cell? ⟨w.heap.size + 1 + 1 + 1, 0, none⟩ = some (.pointer (some ⟨w.heap.size + 1 + 1, 0, none⟩)) ∧
    (c = 0 → ∃ v, w'.cell? ⟨w.heap.size + 1 + 1, 0, none⟩ = some v ∧ w'.ownsRow w.heap.size 5 1 v (bytesL ts).length (cb (bytesL ts)))
theorem put_core (w : World) (ts : List Tok) (ox : Obj) (fl fc : FuncId) (tl : TypeId) (hcf : ∀ caps w, (callFunc fc caps).run Tryz.prog w = .ok (.enter fc caps) w)
    (hclo : ∀ (p : Nat) (S : Nat → Prop) (bl bv bx : Nat) (w5 : World), Keeps (· < w.heap.size) w w5 → Wr w5 S p [] → (∀ k, k < w.heap.size → S k) → w5.cell? ⟨bl, 0, none⟩ = some (.func (.func fl) #[] #[]) → w5.cell? ⟨bv, 0, none⟩ = some (.pointer (some ⟨p, 0, none⟩)) → w5.heap[bx]? = some ox →
      Calls Tryz.prog fc #[.pointer (some ⟨bl, 0, none⟩), .pointer (some ⟨bv, 0, none⟩), .pointer (some ⟨bx, 0, none⟩)] w5 (WPost w5 S p [] ts)) :
    Calls Tryz.prog 28 #[.func (.func fc) #[] #[.pointer (some ⟨w.heap.size + 1, 0, none⟩), .pointer (some ⟨w.heap.size + 1 + 1 + 1, 0, none⟩), .pointer (some ⟨w.heap.size, 0, none⟩)]]
      ((((w.alloc ox).alloc (.cells #[.func (.func fl) #[] #[]] tl)).alloc (.cells #[.slice none 0 0] 175)).alloc (.cells #[.pointer (some ⟨w.heap.size + 1 + 1, 0, none⟩)] 136)) (PutMid w ts) := by
  obtain ⟨h0, h1, h2, h3, h4⟩ := five_at w ox (.cells #[.func (.func fl) #[] #[]] tl) (.cells #[.slice none 0 0] 175) (.cells #[.pointer (some ⟨w.heap.size + 1 + 1, 0, none⟩)] 136) (.cells #[.int .i64 0] 35)
  have hk := five_keeps w ox (.cells #[.func (.func fl) #[] #[]] tl) (.cells #[.slice none 0 0] 175) (.cells #[.pointer (some ⟨w.heap.size + 1 + 1, 0, none⟩)] 136) (.cells #[.int .i64 0] 35) (· < w.heap.size)
  have hw := five_wr w ox (.cells #[.func (.func fl) #[] #[]] tl) (.cells #[.pointer (some ⟨w.heap.size + 1 + 1, 0, none⟩)] 136) (.cells #[.int .i64 0] 35)
  have hpb := fun w' v => put_below (w := w) (w' := w') (v := v) (o0 := ox) (o1 := .cells #[.func (.func fl) #[] #[]] tl) (o2 := .cells #[.slice none 0 0] 175) (o3 := .cells #[.pointer (some ⟨w.heap.size + 1 + 1, 0, none⟩)] 136) (o4 := .cells #[.int .i64 0] 35)
  have hsz : ((((w.alloc ox).alloc (.cells #[.func (.func fl) #[] #[]] tl)).alloc (.cells #[.slice none 0 0] 175)).alloc (.cells #[.pointer (some ⟨w.heap.size + 1 + 1, 0, none⟩)] 136)).heap.size = w.heap.size + 1 + 1 + 1 + 1 := by simp
  generalize hW5 : five w ox (.cells #[.func (.func fl) #[] #[]] tl) (.cells #[.slice none 0 0] 175) (.cells #[.pointer (some ⟨w.heap.size + 1 + 1, 0, none⟩)] 136) (.cells #[.int .i64 0] 35) = W5 at h0 h1 h2 h3 h4 hk hw hpb
  have hin : ∀ k, k < w.heap.size → But (w.heap.size + 5) (w.heap.size + 1 + 1) k := fun k hk => ⟨by omega, by omega⟩
  refine (caught_any fc _ _ (fun w' => firstF ts = 0 ∧ Keeps (But (w.heap.size + 5) (w.heap.size + 1 + 1)) W5 w' ∧ Wr w' (But (w.heap.size + 5) (w.heap.size + 1 + 1)) (w.heap.size + 1 + 1) (bytesL ts))
    (fun c w' => firstF ts ≠ 0 ∧ c = firstF ts ∧ Keeps (But (w.heap.size + 5) (w.heap.size + 1 + 1)) W5 w') (hcf _) ?_).mono ?_
  · have hW5' : (((((w.alloc ox).alloc (.cells #[.func (.func fl) #[] #[]] tl)).alloc (.cells #[.slice none 0 0] 175)).alloc (.cells #[.pointer (some ⟨w.heap.size + 1 + 1, 0, none⟩)] 136)).alloc (.cells #[.int .i64 0] 35)) = W5 := hW5
    rw [hsz, hW5']
    refine (hclo (w.heap.size + 1 + 1) _ (w.heap.size + 1) (w.heap.size + 1 + 1 + 1) w.heap.size W5 hk hw hin (by simpa using cell_of_row _ _ 0 _ _ _ h1) (by simpa using cell_of_row _ _ 0 _ _ _ h3) h0).mono ?_
    rintro e w' ⟨K, h⟩
    refine ⟨K.row h4 ⟨by omega, by omega⟩, ?_⟩
    rcases h with ⟨F, rfl, W⟩ | ⟨F, rfl⟩
    · exact .inl ⟨rfl, F, K, by simpa using W⟩
    · exact .inr ⟨_, rfl, F, rfl, K⟩
  · rintro e w'' ⟨w', c, rfl, hc, rfl⟩
    rw [hsz]
    have hcell : ∀ K : Keeps (But (w.heap.size + 5) (w.heap.size + 1 + 1)) W5 w', (w'.setCell ⟨w.heap.size + 1 + 1 + 1 + 1, 0, none⟩ (.int .i64 c)).cell? ⟨w.heap.size + 1 + 1 + 1, 0, none⟩ = some (.pointer (some ⟨w.heap.size + 1 + 1, 0, none⟩)) := fun K => by
      have hh := K.row h3 ⟨by omega, by omega⟩
      have e := Below.heap_setCell w' ⟨w.heap.size + 1 + 1 + 1 + 1, 0, none⟩ (.int .i64 c) (w.heap.size + 1 + 1 + 1) (by simp)
      simpa using cell_of_row _ _ 0 _ _ _ (e.trans hh)
    rcases hc with ⟨rfl, F, K, W⟩ | ⟨F, rfl, K⟩
    · exact ⟨0, rfl, F.symm, hpb _ _ K, hcell K, fun _ => wr_row W (by omega) (by omega) ⟨by omega, by omega⟩ _⟩
    · exact ⟨_, rfl, rfl, hpb _ _ K, hcell K, fun h => absurd h F⟩

end Go.Proofs.YtbhpbiimfcdgaaaGreat
