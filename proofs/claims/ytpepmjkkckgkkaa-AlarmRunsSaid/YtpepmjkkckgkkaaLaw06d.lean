/-
  Layer 6's statement on any calls, walked, over any clock: the program's clock beside the document's.
-/
import Derived.Test.YtpepmjkkckgkkaaAlarmT
import Derived.Test.YtpepmjkkckgkkaaAlarmC
namespace Go.Proofs.Ytpepmjkkckgkkaa
open Go.RowKit

section
variable {K : World → (Nat → Prop) → Addr → List Due → Prop} {w w' : World} {E E' : Nat → Prop} {p : Addr} {m : Nat} {S T : List Due}
theorem Rf.keep {G A : Nat → Prop} (h : Rf w m G T) (hk : Keeps A w w') (hm : A m) (hG : ∀ k, G k → A k) : Rf w' m G T := by
  obtain ⟨a, c, h1, h2, h3, h4⟩ := h
  have hb := World.block_lt_of_cell? w _ h1
  exact ⟨a, c, hk.cell h1 hm, (World.frozen?_of_block (hk.block m hb hm)).trans h2, (h3.keep (S' := G) (fun _ h => h) (hk.mono hG)), h4⟩
/-- The program's clock at p holds S, the document's at m holds T; the blocks of E are free. -/
def Duo (K : World → (Nat → Prop) → Addr → List Due → Prop) (w : World) (E : Nat → Prop) (p : Addr) (m : Nat) (S T : List Due) : Prop :=
  ∃ F G, K w F p S ∧ Rf w m G T ∧ (∀ k, G k → k < w.heap.size) ∧ (∀ k, F k → ¬ G k) ∧ ¬ F m ∧ ∀ k, E k → ¬ F k ∧ ¬ G k ∧ k ≠ m ∧ k < w.heap.size
theorem Duo.mono (h : Duo K w E p m S T) (hE : ∀ k, E' k → E k) : Duo K w E' p m S T := by
  obtain ⟨F, G, h1, h2, h3, h4, h5, h6⟩ := h
  exact ⟨F, G, h1, h2, h3, h4, h5, fun k hk => h6 k (hE k hk)⟩
theorem Duo.m_lt (h : Duo K w E p m S T) : m < w.heap.size := by
  obtain ⟨F, G, _, ⟨_, _, h1, _⟩, _⟩ := h
  exact World.block_lt_of_cell? w _ h1
theorem Duo.on (Tk : Ticks K) (h : Duo K w E p m S T) (hb : Below w.heap.size w w') : Duo K w' E p m S T ∧ Keeps E w w' := by
  have hm := h.m_lt
  obtain ⟨F, G, h1, h2, h3, h4, h5, h6⟩ := h
  exact ⟨⟨F, G, Tk.keep h1 (Keeps.of_below hb (Tk.lt h1)), h2.keep (Keeps.of_below (S := (· < w.heap.size)) hb fun _ h => h) hm h3, fun k hk => Nat.lt_of_lt_of_le (h3 k hk) hb.size, h4, h5, fun k hk => ⟨(h6 k hk).1, (h6 k hk).2.1, (h6 k hk).2.2.1, Nat.lt_of_lt_of_le (h6 k hk).2.2.2 hb.size⟩⟩,
    Keeps.of_below hb fun k hk => (h6 k hk).2.2.2⟩
theorem Duo.fresh (Tk : Ticks K) (h : Duo K w E p m S T) (o : Obj) : Duo K (w.alloc o) (Also E w.heap.size) p m S T := by
  have hm := h.m_lt
  have h' := (h.on Tk ((Below.refl w.heap.size w).alloc (Nat.le_refl _) o)).1
  have hF : ∃ F G, K w F p S ∧ (∀ k, F k → k < w.heap.size) ∧ (∀ k, G k → k < w.heap.size) ∧ Rf w m G T ∧ (∀ k, F k → ¬ G k) ∧ ¬ F m ∧ ∀ k, E k → ¬ F k ∧ ¬ G k ∧ k ≠ m ∧ k < w.heap.size := by
    obtain ⟨F, G, h1, h2, h3, h4, h5, h6⟩ := h
    exact ⟨F, G, h1, Tk.lt h1, h3, h2, h4, h5, h6⟩
  obtain ⟨F, G, h1, hl, h3, h2, h4, h5, h6⟩ := hF
  have hb := (Below.refl w.heap.size w).alloc (Nat.le_refl _) o
  have hsz : (w.alloc o).heap.size = w.heap.size + 1 := by simp
  refine ⟨F, G, Tk.keep h1 (Keeps.of_below hb hl), h2.keep (Keeps.of_below (S := (· < w.heap.size)) hb fun _ h => h) hm h3, fun k hk => Nat.lt_of_lt_of_le (h3 k hk) hb.size, h4, h5, fun k hk => ?_⟩
  rcases hk with hk | rfl
  · exact ⟨(h6 k hk).1, (h6 k hk).2.1, (h6 k hk).2.2.1, Nat.lt_of_lt_of_le (h6 k hk).2.2.2 hb.size⟩
  · refine ⟨fun hf => ?_, fun hg => ?_, by omega, by omega⟩
    · have := hl _ hf; omega
    · have := h3 _ hg; omega
theorem Duo.put (Tk : Ticks K) (h : Duo K w E p m S T) {g k : Nat} (hg : E g) (v : Value) : Duo K (w.setCell ⟨g, k, none⟩ v) E p m S T := by
  obtain ⟨F, G, h1, h2, h3, h4, h5, h6⟩ := h
  have hk : Keeps (· ≠ g) w (w.setCell ⟨g, k, none⟩ v) := Keeps.refl.setCell (by simp) v
  have hsz : (w.setCell ⟨g, k, none⟩ v).heap.size = w.heap.size := by simp [World.setCell]
  exact ⟨F, G, Tk.keep h1 (hk.mono fun k hf e => (h6 g hg).1 (e ▸ hf)), h2.keep hk (fun e => (h6 g hg).2.2.1 e.symm) (fun k hG e => (h6 g hg).2.1 (e ▸ hG)), fun k hk => by rw [hsz]; exact h3 k hk, h4, h5, fun k hk => by rw [hsz]; exact h6 k hk⟩
/-- The program's clock has moved. -/
theorem Duo.step (_ : Ticks K) {F F' G : Nat → Prop} {S' : List Due} (h2 : Rf w m G T) (h3 : ∀ k, G k → k < w.heap.size) (h4 : ∀ k, F k → ¬ G k) (h5 : ¬ F m) (h6 : ∀ k, E k → ¬ F k ∧ ¬ G k ∧ k ≠ m ∧ k < w.heap.size) (k' : K w' F' p S') (mv : Moved F F' w w') : Duo K w' E p m S' T ∧ Keeps E w w' := by
  have hm : m < w.heap.size := by obtain ⟨_, _, h1, _⟩ := h2; exact World.block_lt_of_cell? w _ h1
  have hn : ∀ k, k < w.heap.size → ¬ F k → ¬ F' k := fun k hk hf hf' => by rcases mv.2 k hf' with h | h; exact hf h; omega
  exact ⟨⟨F', G, k', h2.keep mv.1 h5 (fun k hg hf => h4 k hf hg), fun k hk => Nat.lt_of_lt_of_le (h3 k hk) mv.1.size, fun k hf hg => hn k (h3 k hg) (fun hf' => h4 k hf' hg) hf, hn m hm h5, fun k hk => ⟨hn k (h6 k hk).2.2.2 (h6 k hk).1, (h6 k hk).2.1, (h6 k hk).2.2.1, Nat.lt_of_lt_of_le (h6 k hk).2.2.2 mv.1.size⟩⟩,
    mv.1.mono fun k hk => (h6 k hk).1⟩
/-- The document's clock has moved. -/
theorem Duo.ref (Tk : Ticks K) {F G : Nat → Prop} {T' : List Due} (h1 : K w F p S) (h5 : ¬ F m) (h6 : ∀ k, E k → ¬ F k ∧ ¬ G k ∧ k ≠ m ∧ k < w.heap.size) (hr : Rf w' m (fun k => w.heap.size ≤ k ∧ k < w'.heap.size) T') (hk : Keeps (· ≠ m) w w') : Duo K w' E p m S T' ∧ Keeps E w w' :=
  ⟨⟨F, _, Tk.keep h1 (hk.mono fun k hf e => h5 (e ▸ hf)), hr, fun k h => h.2, fun k hf hg => by have := Tk.lt h1 k hf; omega, h5, fun k hk' => ⟨(h6 k hk').1, fun hg => by have := (h6 k hk').2.2.2; omega, (h6 k hk').2.2.1, Nat.lt_of_lt_of_le (h6 k hk').2.2.2 hk.size⟩⟩, hk.mono fun k hk' => (h6 k hk').2.2.1⟩

theorem duo_set (Tk : Ticks K) (h : Duo K w E p m S T) (id t : Int) (hi : I64 id) (hl : S.length ≤ 1000) :
    Calls Try.prog 8 #[.pointer (some p), .int .i64 id, .int .i64 t] w fun e w' => e = .returned (.int .i64 0) ∧ Duo K w' E p m (setD id t S) T ∧ Keeps E w w' := by
  obtain ⟨F, G, h1, h2, h3, h4, h5, h6⟩ := h
  exact (Tk.set w F p S id t hi h1 hl).mono fun e w' ⟨he, F', k', mv⟩ => ⟨he, Duo.step Tk h2 h3 h4 h5 h6 k' mv⟩
theorem duo_clear (Tk : Ticks K) (h : Duo K w E p m S T) (id : Int) (hi : I64 id) (hl : S.length ≤ 1000) :
    Calls Try.prog 10 #[.pointer (some p), .int .i64 id] w fun e w' => e = .returned (.int .i64 (if hasD id S then 0 else 50)) ∧ Duo K w' E p m (offD id S) T ∧ Keeps E w w' := by
  obtain ⟨F, G, h1, h2, h3, h4, h5, h6⟩ := h
  exact (Tk.clear w F p S id hi h1 hl).mono fun e w' ⟨he, F', k', mv⟩ => ⟨he, Duo.step Tk h2 h3 h4 h5 h6 k' mv⟩
theorem duo_next (Tk : Ticks K) (h : Duo K w E p m S T) (hl : S.length ≤ 1000) :
    Calls Try.prog 15 #[.pointer (some p)] w fun e w' => e = .returned (.tuple (nextV S)) ∧ Duo K w' E p m S T ∧ Keeps E w w' := by
  obtain ⟨F, G, h1, h2, h3, h4, h5, h6⟩ := h
  exact (Tk.next w F p S h1 hl).mono fun e w' ⟨he, F', k', mv⟩ => ⟨he, Duo.step Tk h2 h3 h4 h5 h6 k' mv⟩
theorem duo_len (Tk : Ticks K) (h : Duo K w E p m S T) (hl : S.length ≤ 1000) :
    Calls Try.prog 17 #[.pointer (some p)] w fun e w' => e = .returned (.int .i64 (S.length : Int)) ∧ Duo K w' E p m S T ∧ Keeps (Also E m) w w' := by
  obtain ⟨F, G, h1, h2, h3, h4, h5, h6⟩ := h
  exact (Tk.len w F p S h1 hl).mono fun e w' ⟨he, F', k', mv⟩ => ⟨he, (Duo.step Tk h2 h3 h4 h5 h6 k' mv).1, mv.1.mono fun k hk => by rcases hk with hk | rfl; exact (h6 k hk).1; exact h5⟩
theorem Duo.ref_cell (h : Duo K w E p m S T) : ∃ a c, w.cell? ⟨m, 0, none⟩ = some (.slice a T.length c) := by
  obtain ⟨F, G, _, ⟨a, c, h1, _⟩, _⟩ := h
  exact ⟨a, c, h1⟩
theorem Duo.lt (h : Duo K w E p m S T) {k : Nat} (hk : E k) : k < w.heap.size := by
  obtain ⟨F, G, _, _, _, _, _, h6⟩ := h
  exact (h6 k hk).2.2.2
/-- A cell of a row of the call's own is written. -/
theorem own_put {base : Nat} {e : TypeId} {g n c j : Nat} {xs : List Value} (h : w.ownsRow base e 1 (.slice (some ⟨g, 0, none⟩) n c) n xs) (v : Value) :
    (w.setCell ⟨g, j, none⟩ v).ownsRow base e 1 (.slice (some ⟨g, 0, none⟩) n c) n (xs.set j v) := by
  rcases h with ⟨hl, ⟨h, _⟩ | ⟨g', cap, cur, h1, h2, h3, h4, h5, h6, h7⟩⟩
  · cases h
  · cases h1
    refine ⟨by rw [List.length_set]; exact hl, .inr ⟨g, c, cur.setIfInBounds j v, rfl, h2, heap_setCell_same w g j cur e v h3, h4, h5, by simpa using h6, ?_⟩⟩
    rw [← h7]
    simp [List.take_set]
theorem duo_rset (Tk : Ticks K) (h : Duo K w E p m S T) (id t : Int) (hl : T.length ≤ 1000) :
    Calls Try.prog 9 #[.pointer (some ⟨m, 0, none⟩), .int .i64 id, .int .i64 t] w fun e w' => e = .returned (.tuple #[]) ∧ Duo K w' E p m S (setD id t T) ∧ Keeps E w w' := by
  obtain ⟨F, G, h1, h2, h3, h4, h5, h6⟩ := h
  exact (ref_set_any m G T id t w h2 (by omega)).mono fun e w' ⟨he, hr, hk⟩ => ⟨he, Duo.ref Tk h1 h5 h6 hr hk⟩
theorem duo_rclear (Tk : Ticks K) (h : Duo K w E p m S T) (id : Int) (hl : T.length ≤ 1000) :
    Calls Try.prog 11 #[.pointer (some ⟨m, 0, none⟩), .int .i64 id] w fun e w' => e = .returned (.int .i64 (if hasD id T then 0 else 50)) ∧ Duo K w' E p m S (offD id T) ∧ Keeps E w w' := by
  obtain ⟨F, G, h1, h2, h3, h4, h5, h6⟩ := h
  exact (ref_clear_any m G T id w h2 (by omega)).mono fun e w' ⟨he, hr, hk⟩ => ⟨he, Duo.ref Tk h1 h5 h6 hr hk⟩
theorem duo_rnext (Tk : Ticks K) (h : Duo K w E p m S T) :
    Calls Try.prog 16 #[.pointer (some ⟨m, 0, none⟩)] w fun e w' => e = .returned (.tuple (nextV T)) ∧ Duo K w' E p m S T ∧ Keeps E w w' := by
  have hd := fun w' (hb : Below w.heap.size w w') => h.on Tk hb
  obtain ⟨F, G, h1, h2, h3, h4, h5, h6⟩ := h
  exact (ref_next_any m G T w h2).mono fun e w' ⟨he, hb⟩ => ⟨he, hd w' hb⟩
/-- What the program's clock tells: a row of its own, free of both. -/
theorem duo_due (Tk : Ticks K) (h : Duo K w E p m S T) (now : Int) (hl : S.length ≤ 1000) :
    Calls Try.prog 12 #[.pointer (some p), .int .i64 now] w fun e w' => ∃ o, e = .returned o ∧ w'.ownsRow w.heap.size 3 1 o (dueN now S) (ci (ids (S.take (dueN now S)))) ∧ Duo K w' (fun k => E k ∨ o.ownBlock = some k) p m (S.drop (dueN now S)) T ∧ Keeps E w w' := by
  have hm := h.m_lt
  obtain ⟨F, G, h1, h2, h3, h4, h5, h6⟩ := h
  refine (Tk.due w F p S now h1 hl).mono fun e w' ⟨o, F', he, ho, k', mv, hn⟩ => ?_
  obtain ⟨⟨F2, G2, _⟩, hk⟩ := Duo.step Tk h2 h3 h4 h5 h6 k' mv
  have hn' : ∀ k, k < w.heap.size → ¬ F k → ¬ F' k := fun k hk hf hf' => by rcases mv.2 k hf' with h | h; exact hf h; omega
  refine ⟨o, he, ho, ⟨F', G, k', h2.keep mv.1 h5 (fun k hg hf => h4 k hf hg), fun k hk => Nat.lt_of_lt_of_le (h3 k hk) mv.1.size, fun k hf hg => hn' k (h3 k hg) (fun hf' => h4 k hf' hg) hf, hn' m hm h5, fun k hk => ?_⟩, hk⟩
  rcases hk with hk | hk
  · exact ⟨hn' k (h6 k hk).2.2.2 (h6 k hk).1, (h6 k hk).2.1, (h6 k hk).2.2.1, Nat.lt_of_lt_of_le (h6 k hk).2.2.2 mv.1.size⟩
  · have := ho.lt k hk
    exact ⟨hn k hk, fun hg => by have := h3 k hg; omega, by omega, this.2⟩
theorem duo_rdue (Tk : Ticks K) (h : Duo K w E p m S T) (now : Int) (hl : T.length ≤ 1000) :
    Calls Try.prog 14 #[.pointer (some ⟨m, 0, none⟩), .int .i64 now] w fun e w' => ∃ o, e = .returned o ∧ w'.ownsRow w.heap.size 3 1 o (dueN now T) (ci (ids (T.take (dueN now T)))) ∧ Duo K w' E p m S (T.drop (dueN now T)) ∧ Keeps E w w' := by
  have hm := h.m_lt
  obtain ⟨F, G, h1, h2, h3, h4, h5, h6⟩ := h
  exact (ref_due_any m G T now w h2 h3 (by omega)).mono fun e w' ⟨o, he, ho, hr, hk⟩ => ⟨o, he, ho, ⟨F, G, Tk.keep h1 (hk.mono fun k hf e => h5 (e ▸ hf)), hr, fun k hg => Nat.lt_of_lt_of_le (h3 k hg) hk.size, h4, h5, fun k hk' => ⟨(h6 k hk').1, (h6 k hk').2.1, (h6 k hk').2.2.1, Nat.lt_of_lt_of_le (h6 k hk').2.2.2 hk.size⟩⟩, hk.mono fun k hk' => (h6 k hk').2.2.1⟩
theorem own_set {base : Nat} {e : TypeId} {g n c : Nat} {xs : List Int} (h : w.ownsRow base e 1 (.slice (some ⟨g, 0, none⟩) n c) n (ci xs)) (j : Nat) {v : Int} :
    (w.setCell ⟨g, j, none⟩ (.int .i64 v)).ownsRow base e 1 (.slice (some ⟨g, 0, none⟩) n c) n (ci (xs.set j v)) := by
  have := own_put (j := j) h (.int .i64 v)
  have e : ci (xs.set j v) = (ci xs).set j (.int .i64 v) := by simp [ci, List.map_set]
  rw [e]
  exact this
theorem own_at {base : Nat} {e : TypeId} {a : Option Addr} {n c j : Nat} {xs : List Value} (h : w.ownsRow base e 1 (.slice a n c) n xs) (hj : j < n) :
    ∃ g v, a = some ⟨g, 0, none⟩ ∧ base ≤ g ∧ w.cell? ⟨g, j, none⟩ = some v ∧ w.frozen? ⟨g, j, none⟩ = false := by
  rcases h with ⟨hl, ⟨_, rfl⟩ | ⟨g', cap, cur, h1, h2, h3, h4, h5, h6, h7⟩⟩
  · omega
  · cases h1
    have hjc : j < cur.size := by omega
    refine ⟨g', cur[j], rfl, h2, ?_, ?_⟩
    · rw [cell_of_row w g' j cur e (0, 0) h3]
      exact Array.getElem?_eq_getElem hjc
    · unfold World.frozen?; rw [h3]; rfl
/-- Both clocks hold S, of l items, and what was in w0 is as it was. -/
def Now (K : World → (Nat → Prop) → Addr → List Due → Prop) (w0 : World) (E : Nat → Prop) (p : Addr) (m : Nat) (S : List Due) (am : Option Addr) (l cm : Nat) (w : World) : Prop :=
  Duo K w E p m S S ∧ (∀ k, k < w0.heap.size → E k) ∧ Keeps (fun k => k < w0.heap.size) w0 w ∧ S.length = l ∧ l ≤ 1000 ∧ w.cell? ⟨m, 0, none⟩ = some (.slice am l cm)
theorem now_drew (Tk : Ticks K) {w0 : World} {am : Option Addr} {l cm : Nat} (h : Now K w0 E p m S am l cm w) : Now K w0 E p m S am l cm w.drew := by
  obtain ⟨h1, h2, h3, h4, h5, h6⟩ := h
  exact ⟨(h1.on Tk (w' := w.drew) ⟨rfl, rfl, rfl, Nat.le_refl _, fun _ _ => rfl⟩).1, h2, h3.trans ⟨rfl, rfl, rfl, Nat.le_refl _, fun _ _ _ => rfl⟩, h4, h5, h6⟩
theorem now_len (Tk : Ticks K) {w0 : World} {am : Option Addr} {l cm : Nat} (h : Now K w0 E p m S am l cm w) :
    Calls Try.prog 17 #[.pointer (some p)] w fun e w' => e = .returned (.int .i64 (l : Int)) ∧ Now K w0 E p m S am l cm w' ∧ w'.cell? ⟨m, 0, none⟩ = some (.slice am l cm) := by
  obtain ⟨h1, h2, h3, h4, h5, h6⟩ := h
  refine (duo_len Tk h1 (by omega)).mono fun e w' ⟨he, hd, hk⟩ => ?_
  have hc := hk.cell (p := ⟨m, 0, none⟩) h6 Also.new
  exact ⟨by rw [he, h4], ⟨hd, h2, h3.trans (hk.mono fun k hk' => .inl (h2 k hk')), h4, h5, hc⟩, hc⟩
end
end Go.Proofs.Ytpepmjkkckgkkaa
