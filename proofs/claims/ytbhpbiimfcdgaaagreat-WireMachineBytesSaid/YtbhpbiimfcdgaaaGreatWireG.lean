/-
  The program's 'get', by contract: what is shared by all things.
-/
import Derived.Test.YtbhpbiimfcdgaaaGreatWireQ2
import Derived.Test.YtbhpbiimfcdgaaaGreatWireQ3
namespace Go.Proofs.YtbhpbiimfcdgaaaGreat
open Go.RowKit
set_option linter.unusedVariables false

/-- Behind the closure in 'get'. -/
def CloPost (w : World) (bx : Nat) (T : TypeId) (sh : Sh) (bs : List UInt8) (e : Ending) (w' : World) : Prop :=
  Keeps (Off bx) w w' ∧ ((∃ ts cs, parse sh bs = some (ts, []) ∧ e = .returned (.tuple #[]) ∧ w'.heap[bx]? = some (.cells cs.toArray T (0, 0)) ∧ Is w' (New w.heap.size w'.heap.size) sh cs ts) ∨
    ((∀ ts, parse sh bs ≠ some (ts, [])) ∧ e = died 11))
/-- Behind 'caught' in 'get'. -/
def GetMid (w : World) (T : TypeId) (c0 : Array Value) (sh : Sh) (bs : List UInt8) (e : Ending) (w' : World) : Prop :=
  ∃ c, e = .returned (.int .i64 c) ∧ Below w.heap.size w w' ∧ w'.heap[w.heap.size + 1 + 1]? = some (.cells c0 T (0, 0)) ∧ w'.heap[w.heap.size + 1 + 1 + 1 + 1]? = some (.cells c0 T (0, 0)) ∧
    ((c = 0 ∧ ∃ ts cs, parse sh bs = some (ts, []) ∧ w'.heap[w.heap.size + 1 + 1 + 1]? = some (.cells cs.toArray T (0, 0)) ∧ Is w' (New (w.heap.size + 5) w'.heap.size) sh cs ts) ∨ (c = 11 ∧ ∀ ts, parse sh bs ≠ some (ts, [])))
/-- What the program's Get answers. -/
def GetPost (w : World) (c0 : Array Value) (sh : Sh) (bs : List UInt8) (e : Ending) (w' : World) : Prop :=
  Below w.heap.size w w' ∧ ((∃ ts cs, parse sh bs = some (ts, []) ∧ e = .returned (.tuple #[.agg cs.toArray, .int .i64 0]) ∧ Is w' (New w.heap.size w'.heap.size) sh cs ts) ∨
    ((∀ ts, parse sh bs ≠ some (ts, [])) ∧ e = .returned (.tuple #[.agg c0, .int .i64 11])))

theorem results_row_tmp {P : Program} {fn : Func} {p u : Tmp} {ty : TypeId} (h : fn.results = #[.cell p ty, .tmp u]) (tmps : Array Value) (w : World) (g : Nat) (t : TypeId) (cs : Array Value) (fr : Nat × Nat) (d : TypeDesc)
    (hp : tmps.getD p undef = .pointer (some ⟨g, 0, none⟩)) (hg : w.heap[g]? = some (.cells cs t fr))
    (hu : P.underlying ty = some d) (hd : (match d with | .struct _ | .array _ _ => true | _ => false) = true) (hi : (P.info? ty).map (·.size) = some cs.size) :
    (results fn tmps).run P w = .ok (.tuple #[.agg cs, tmps.getD u undef]) w := by
  have hp' : tmps[p]?.getD undef = .pointer (some ⟨g, 0, none⟩) := by simpa using hp
  simp only [results, h]
  simp [Result.andThen, hp', asAddr, run_loadVar_row w g t ty cs fr d hg hu hd hi]

theorem get_core (w : World) (a : Option Addr) (len cap : Nat) (bs : List UInt8) (T : TypeId) (c0 : Array Value) (sh : Sh) (ft fc : FuncId) (tt : TypeId) (hcf : ∀ caps w, (callFunc fc caps).run Tryz.prog w = .ok (.enter fc caps) w)
    (hl : bs.length = len) (hrd : RdS w (· < w.heap.size) a (cb bs)) (hlc : len ≤ cap) (hcm : cap ≤ maxLen)
    (hclo : ∀ (bb bt bx : Nat) (w6 : World), w.heap.size ≤ w6.heap.size → w.heap.size ≤ bx → RdS w6 (· < w.heap.size) a (cb bs) → w6.cell? ⟨bb, 0, none⟩ = some (.slice a len cap) → w6.cell? ⟨bt, 0, none⟩ = some (.func (.func ft) #[] #[]) → w6.heap[bx]? = some (.cells c0 T (0, 0)) →
      Calls Tryz.prog fc #[.pointer (some ⟨bb, 0, none⟩), .pointer (some ⟨bt, 0, none⟩), .pointer (some ⟨bx, 0, none⟩)] w6 (CloPost w6 bx T sh bs)) :
    Calls Tryz.prog 28 #[.func (.func fc) #[] #[.pointer (some ⟨w.heap.size, 0, none⟩), .pointer (some ⟨w.heap.size + 1, 0, none⟩), .pointer (some ⟨w.heap.size + 1 + 1 + 1, 0, none⟩)]]
      (five w (.cells #[.slice a len cap] 22) (.cells #[.func (.func ft) #[] #[]] tt) (.cells c0 T) (.cells c0 T) (.cells c0 T)) (GetMid w T c0 sh bs) := by
  obtain ⟨h0, h1, h2, h3, h4⟩ := five_at w (.cells #[.slice a len cap] 22) (.cells #[.func (.func ft) #[] #[]] tt) (.cells c0 T) (.cells c0 T) (.cells c0 T)
  have hk := five_keeps w (.cells #[.slice a len cap] 22) (.cells #[.func (.func ft) #[] #[]] tt) (.cells c0 T) (.cells c0 T) (.cells c0 T) (· < w.heap.size)
  have hsz := five_size w (.cells #[.slice a len cap] 22) (.cells #[.func (.func ft) #[] #[]] tt) (.cells c0 T) (.cells c0 T) (.cells c0 T)
  generalize five w (.cells #[.slice a len cap] 22) (.cells #[.func (.func ft) #[] #[]] tt) (.cells c0 T) (.cells c0 T) (.cells c0 T) = W5 at h0 h1 h2 h3 h4 hk hsz ⊢
  have hk6 : ∀ S : Nat → Prop, Keeps S W5 (W5.alloc (.cells #[.int .i64 0] 35)) := fun S => Keeps.refl.alloc _
  have hrc := heap_alloc_new W5 (.cells #[.int .i64 0] 35)
  have hsz6 : (W5.alloc (.cells #[.int .i64 0] 35)).heap.size = w.heap.size + 6 := by simp [hsz]
  have hkeep : ∀ (k : Nat) (o : Obj), W5.heap[k]? = some o → (W5.alloc (.cells #[.int .i64 0] 35)).heap[k]? = some o := fun k o h => (hk6 (fun _ => True)).row h trivial
  refine (caught_any fc _ W5 (fun w' => Keeps (Off (w.heap.size + 1 + 1 + 1)) (W5.alloc (.cells #[.int .i64 0] 35)) w' ∧ ∃ ts cs, parse sh bs = some (ts, []) ∧ w'.heap[w.heap.size + 1 + 1 + 1]? = some (.cells cs.toArray T (0, 0)) ∧ Is w' (New (w.heap.size + 6) w'.heap.size) sh cs ts)
    (fun c w' => Keeps (Off (w.heap.size + 1 + 1 + 1)) (W5.alloc (.cells #[.int .i64 0] 35)) w' ∧ c = 11 ∧ ∀ ts, parse sh bs ≠ some (ts, [])) (hcf _) ?_).mono ?_
  · refine (hclo w.heap.size (w.heap.size + 1) (w.heap.size + 1 + 1 + 1) _ (by omega) (by omega) ((hrd.kept (fun _ h => h) hk).kept (fun _ h => h) (hk6 _)) (by simpa using cell_of_row _ _ 0 _ _ _ (hkeep _ _ h0)) (by simpa using cell_of_row _ _ 0 _ _ _ (hkeep _ _ h1)) (hkeep _ _ h3)).mono ?_
    rintro e w' ⟨K, h⟩
    refine ⟨K.row hrc (by unfold Off; omega), ?_⟩
    rcases h with ⟨ts, cs, P, rfl, hh, hI⟩ | ⟨P, rfl⟩
    · exact .inl ⟨rfl, K, ts, cs, P, hh, by rw [← hsz6]; exact hI⟩
    · exact .inr ⟨11, rfl, K, rfl, P⟩
  · rintro e w'' ⟨w', c, rfl, hc, rfl⟩
    have hrow : ∀ (k : Nat) (o : Obj), Keeps (Off (w.heap.size + 1 + 1 + 1)) (W5.alloc (.cells #[.int .i64 0] 35)) w' → W5.heap[k]? = some o → k ≠ w.heap.size + 1 + 1 + 1 → (w'.setCell ⟨W5.heap.size, 0, none⟩ (.int .i64 c)).heap[k]? = some o := fun k o K h hne => by
      have hlt := lt_of_block h
      exact (Below.heap_setCell w' ⟨W5.heap.size, 0, none⟩ (.int .i64 c) k (by simp; omega)).trans (K.row (hkeep k o h) hne)
    have hbel : Keeps (Off (w.heap.size + 1 + 1 + 1)) (W5.alloc (.cells #[.int .i64 0] 35)) w' → Below w.heap.size w (w'.setCell ⟨W5.heap.size, 0, none⟩ (.int .i64 c)) := fun K =>
      ((hk.trans ((hk6 _).trans (K.mono fun k hk => by unfold Off; omega))).setCell (p := ⟨W5.heap.size, 0, none⟩) (by simp; omega) _).below (Nat.le_refl _) fun _ h => h
    rcases hc with ⟨rfl, K, ts, cs, P, hh, hI⟩ | ⟨K, rfl, P⟩
    · refine ⟨0, rfl, hbel K, hrow _ _ K h2 (by omega), hrow _ _ K h4 (by omega), .inl ⟨rfl, ts, cs, P, ?_, ?_⟩⟩
      · exact (Below.heap_setCell w' ⟨W5.heap.size, 0, none⟩ (.int .i64 0) _ (by simp; omega)).trans hh
      · exact hI.keep (fun k hk => ⟨by have := hk.1; omega, by simpa [World.setCell] using hk.2⟩) (Keeps.refl.setCell (p := ⟨W5.heap.size, 0, none⟩) (fun h => by have := h.1; simp at this; omega) _)
    · exact ⟨11, rfl, hbel K, hrow _ _ K h2 (by omega), hrow _ _ K h4 (by omega), .inr ⟨rfl, P⟩⟩
theorem keeps_box {S : Nat → Prop} {w w1 : World} {o : Obj} (K : Keeps (Off w.heap.size) (w.alloc o) w1) : Keeps S w w1 :=
  ⟨K.os, K.tape, K.output, by have := K.size; simp at this; omega, fun k hk _ => (K.block k (by simp; omega) (by unfold Off; omega)).trans (Below.heap_alloc _ _ _ hk)⟩
theorem keeps_setRow {w w1 : World} {bx : Nat} (K : Keeps (Off bx) w w1) (c : Array Value) : Keeps (Off bx) w (w1.setRow bx c) :=
  K.trans ⟨rfl, rfl, rfl, by simp, fun k _ hk => setRow_other w1 bx k c hk⟩
theorem Re.setRow' {w : World} {p B : Nat} {bs : List UInt8} (h : Re w p B bs) {g : Nat} (hg : g ≠ p) (hB : B ≤ g) (c : Array Value) : Re (w.setRow g c) p B bs := by
  obtain ⟨hBp, a, cap, hh, hr, hc, hm⟩ := h
  have hk : Keeps (fun k => k ≠ g) w (w.setRow g c) := ⟨rfl, rfl, rfl, by simp, fun k _ hk => setRow_other w g k c hk⟩
  exact ⟨hBp, a, cap, hk.row hh (fun e => hg e.symm), hr.kept (fun _ h => h) (hk.mono fun k h => by omega), hc, hm⟩
theorem GetPost.boxed {w w' : World} {o : Obj} {c0 : Array Value} {sh : Sh} {bs : List UInt8} {e : Ending} (h : GetPost (w.alloc o) c0 sh bs e w') : w'.heap[w.heap.size]? = some o ∧ Below w.heap.size w w' ∧
    ((∃ ts cs, parse sh bs = some (ts, []) ∧ e = .returned (.tuple #[.agg cs.toArray, .int .i64 0]) ∧ Is w' (New (w.heap.size + 1) w'.heap.size) sh cs ts) ∨ ((∀ ts, parse sh bs ≠ some (ts, [])) ∧ e = .returned (.tuple #[.agg c0, .int .i64 11]))) := by
  obtain ⟨hb, h⟩ := h
  have hz : (w.alloc o).heap.size = w.heap.size + 1 := by simp
  rw [hz] at hb h
  exact ⟨(hb.block _ (by omega)).trans (heap_alloc_new w o), ((Below.refl _ _).alloc (Nat.le_refl _) o).trans (hb.mono (by omega)), h⟩
theorem below_setRow {w w' : World} (hb : Below w.heap.size w w') (c : Array Value) : Below w.heap.size w (w'.setRow w.heap.size c) := hb.trans ⟨rfl, rfl, rfl, by simp, fun k hk => setRow_other w' _ k _ (by omega)⟩
end Go.Proofs.YtbhpbiimfcdgaaaGreat
