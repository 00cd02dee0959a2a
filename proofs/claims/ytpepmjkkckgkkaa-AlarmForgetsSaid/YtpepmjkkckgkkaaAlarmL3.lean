/-
  The heap's own methods over the program's clock, by contract: Push.
-/
import Derived.Test.YtpepmjkkckgkkaaAlarmL2
namespace Go.Proofs.Ytpepmjkkckgkkaa
open Go.RowKit

theorem markInfo : (Try.prog.info? 56).map (fun i => (i.zero, i.size, i.bytes)) = some (some (.agg #[.int .i64 0, .int .i64 0]), 2, 16) := by kernel_rfl

/-- The map may know more than the row. -/
structure Mid (w : World) (F : Nat → Prop) (c : Nat) (v : Value) (b : Nat) (D : DataW Unit) (L : List Due) : Prop where
  box : w.heap[c]? = some (.cells #[v, .map (some b)] 51 (0, 0))
  own : w.ownsRow 0 56 2 v L.length (its L)
  map : w.ownsMap Try.prog 3 (plainElem Try.prog 3) b (L.length + 1) D
  fc : F c
  fb : F b
  bc : b ≠ c
  fv : ∀ g, v.ownBlock = some g → F g ∧ g ≠ c ∧ g ≠ b
  lt : ∀ k, F k → k < w.heap.size
  short : L.length ≤ 200000
theorem Mid.keep {w w' : World} {F : Nat → Prop} {c b : Nat} {v : Value} {D : DataW Unit} {L : List Due} (h : Mid w F c v b D L) (hk : Keeps F w w') : Mid w' F c v b D L :=
  ⟨hk.row h.box h.fc, own_keeps h.own hk fun g hg => (h.fv g hg).1, map_keeps h.map hk h.fb, h.fc, h.fb, h.bc, h.fv, fun k hf => Nat.lt_of_lt_of_le (h.lt k hf) hk.size, h.short⟩
theorem Mid.put {w : World} {F : Nat → Prop} {c b n : Nat} {v : Value} {D : DataW Unit} {L : List Due} (h : Mid w F c v b D L) (hn : L.length = n) {x : Int} (hx : I64 x) (hs : Maps.size (D.put (key x) (.lit (key (n : Int)))) ≤ n + 1) :
    ∃ w', (Instr.mapUpdate 47 (.map (some b)) (.int .i64 x) (.int .i64 (n : Int))).run Try.prog w = .ok () w' ∧ Mid w' F c v b (D.put (key x) (.lit (key (n : Int)))) L ∧ Moved F F w w' := by
  have hsh := h.short
  obtain ⟨w', hr, ho, ht⟩ := h.map.store (Maps.int_keyed Try.underlying3) Try.underlying47 (by unfold maxLen; omega) (key := .int .i64 x) (val := .int .i64 (n : Int)) (Maps.keyOf_int_mk Try.underlying3 hx) (plainElem_int Try.underlying3 (i64_of (x := (n : Int)) (by omega) (by omega)))
  have hsz : w.heap.size ≤ w'.heap.size := ht.grown.size
  refine ⟨w', hr, ⟨(turned_block ht (h.lt _ h.fc) h.bc.symm).trans h.box, h.own.kept ht.grown ?_, (ownsMap_tight ho).mono (by rw [hn]; exact hs), h.fc, h.fb, h.bc, h.fv, fun k hf => Nat.lt_of_lt_of_le (h.lt k hf) hsz, h.short⟩, Moved.turned ht h.fb⟩
  cases hv : v.ownBlock with
  | none => exact .inl rfl
  | some g => exact .inr fun e => (h.fv g hv).2.2 (by cases e; rfl)
theorem mid_of {w : World} {F : Nat → Prop} {c b : Nat} {v : Value} {L : List Due} (h : Rep w F c v (.map (some b)) L) : ∃ D, Mid w F c v b D L ∧ Plc D L := by
  rcases h.map with ⟨h1, _⟩ | ⟨b', D, h1, h2, h3, h4, h5, h6⟩
  · cases h1
  · cases h1
    exact ⟨D, ⟨h.box, h.own, h5.mono (Nat.le_succ _), h.fc, h2, h3, fun g hg => ⟨(h.fv g hg).1, (h.fv g hg).2, h4 g hg⟩, h.lt, h.short⟩, h6⟩
/-- A map is made where there was none. -/
theorem mid_new {w : World} {F : Nat → Prop} {c : Nat} {v : Value} {L : List Due} (h : Rep w F c v (.map none) L) (o : Obj) :
    L = [] ∧ Mid (((w.setCell ⟨c, 1, none⟩ (.map (some (w.heap.size + 1)))).alloc o).alloc (.map #[] 0)) (Also F (w.heap.size + 1)) c v (w.heap.size + 1) (.map []) L ∧
      Moved F (Also F (w.heap.size + 1)) w (((w.setCell ⟨c, 1, none⟩ (.map (some (w.heap.size + 1)))).alloc o).alloc (.map #[] 0)) ∧
      (((w.setCell ⟨c, 1, none⟩ (.map (some (w.heap.size + 1)))).alloc o).alloc (.map #[] 0)).heap[w.heap.size]? = some o := by
  have hcl := h.lt c h.fc
  have hL : L = [] := by
    rcases h.map with ⟨_, h1⟩ | ⟨b', D, h1, _⟩
    · exact h1
    · cases h1
  have hne : w.heap.size + 1 ≠ c := by omega
  have hs0 : (w.setCell ⟨c, 1, none⟩ (.map (some (w.heap.size + 1)))).heap.size = w.heap.size := by simp [World.setCell]
  have hbox := heap_setCell_same w c 1 _ _ (.map (some (w.heap.size + 1))) h.box
  have hown := own_keeps h.own (S := (· ≠ c)) (Keeps.refl.setCell (p := ⟨c, 1, none⟩) (by simp) (.map (some (w.heap.size + 1)))) fun g hg => (h.fv g hg).2
  have hk0 : Keeps (fun k => ¬ F k) w (w.setCell ⟨c, 1, none⟩ (.map (some (w.heap.size + 1)))) := Keeps.refl.setCell (fun hf => hf h.fc) _
  generalize w.setCell ⟨c, 1, none⟩ (.map (some (w.heap.size + 1))) = w0 at *
  have hb2 : Below w0.heap.size w0 ((w0.alloc o).alloc (.map #[] 0)) := ((Below.refl _ w0).alloc (Nat.le_refl _) o).alloc (by simp) _
  have hsz : ((w0.alloc o).alloc (.map #[] 0)).heap.size = w.heap.size + 2 := by simp [hs0]
  have hs1 : (w0.alloc o).heap.size = w.heap.size + 1 := by simp [hs0]
  have hmap := World.ownsMap_made (H := Unit) (w0.alloc o) Try.prog 3 (plainElem Try.prog 3)
  rw [hs1] at hmap
  refine ⟨hL, ⟨(hb2.block c (by omega)).trans hbox, own_keeps hown (Keeps.of_below (S := (· < w0.heap.size)) hb2 fun _ h => h) fun g hg => by have := h.lt g (h.fv g hg).1; omega, hmap.mono (Nat.zero_le _), .inl h.fc, .inr rfl, hne, fun g hg => ⟨.inl (h.fv g hg).1, (h.fv g hg).2, ?_⟩, fun k hk => ?_, h.short⟩, ⟨(hk0.alloc o).alloc _, fun k hk => ?_⟩, ?_⟩
  · have := h.lt g (h.fv g hg).1
    omega
  · rw [hsz]
    rcases hk with hk | rfl
    · have := h.lt k hk; omega
    · omega
  · rcases hk with hk | rfl
    · exact .inl hk
    · exact .inr (by omega)
  · rw [← hs0, Below.heap_alloc _ _ _ (by simp)]
    exact heap_alloc_new w0 o
/-- The row has grown by one, in its place or in a new one, and the clock holds it. -/
theorem mid_push {w w2 : World} {F : Nat → Prop} {c b g n cap : Nat} {v : Value} {D : DataW Unit} {L : List Due} {x : Due} {o : Obj} (h : Mid w F c v b D L) (hn : L.length = n) (hl : n ≤ 100000) (hp : Plc D (L ++ [x]))
    (hown : w2.ownsRow 0 56 2 (.slice (some ⟨g, 0, none⟩) (n + 1) cap) (n + 1) (its L ++ itv x)) (hg : ((w.alloc o).drew).grownBy w2 v.ownBlock) (hat : v.ownBlock = some g ∨ g = w.heap.size + 1) (hlt : g < w2.heap.size) :
    w2.cell? ⟨c, 0, none⟩ = some v ∧ w2.frozen? ⟨c, 0, none⟩ = false ∧ Held (w2.setCell ⟨c, 0, none⟩ (.slice (some ⟨g, 0, none⟩) (n + 1) cap)) (Also F g) c (L ++ [x]) ∧ Moved F (Also F g) w (w2.setCell ⟨c, 0, none⟩ (.slice (some ⟨g, 0, none⟩) (n + 1) cap)) := by
  have hk : Keeps (fun k => v.ownBlock ≠ some k) w w2 := ((Keeps.refl.alloc o).drew).trans (Keeps.of_grown (S := fun k => v.ownBlock ≠ some k) (w := (w.alloc o).drew) hg fun k hk hn => hn hk)
  have hcv : v.ownBlock ≠ some c := fun e => (h.fv c e).2.1 rfl
  have hbv : v.ownBlock ≠ some b := fun e => (h.fv b e).2.2 rfl
  have hbox := hk.row h.box hcv
  have hmap := map_keeps h.map hk hbv
  have hgc : g ≠ c := by
    rcases hat with e | rfl
    · exact (h.fv g e).2.1
    · have := h.lt c h.fc; omega
  have hgb : g ≠ b := by
    rcases hat with e | rfl
    · exact (h.fv g e).2.2
    · have := h.lt b h.fb; omega
  have hlen : (L ++ [x]).length = n + 1 := by simp [hn]
  have hits : its (L ++ [x]) = its L ++ itv x := its_snoc L x
  have hkeep2 : Keeps (· ≠ c) w2 (w2.setCell ⟨c, 0, none⟩ (.slice (some ⟨g, 0, none⟩) (n + 1) cap)) := Keeps.refl.setCell (by simp) _
  have hmv : Moved F (Also F g) w (w2.setCell ⟨c, 0, none⟩ (.slice (some ⟨g, 0, none⟩) (n + 1) cap)) := by
    refine ⟨(hk.mono fun k hf e => hf (h.fv k e).1).setCell (fun hf => hf h.fc) _, fun k hk => ?_⟩
    rcases hk with hk | rfl
    · exact .inl hk
    · rcases hat with e | rfl
      · exact .inl (h.fv _ e).1
      · exact .inr (by omega)
  refine ⟨box_at hbox 0 rfl, frozen_of_row _ c 0 _ _ hbox, ⟨.slice (some ⟨g, 0, none⟩) (n + 1) cap, .map (some b), ?_, ?_, .inl h.fc, ?_, ?_, .inr ⟨b, D, rfl, .inl h.fb, h.bc, ?_, ?_, hp⟩, by rw [hlen]; omega⟩, hmv⟩
  · rw [heap_setCell_same _ c 0 _ _ _ hbox]
    rfl
  · rw [hlen, hits]
    exact own_keeps hown hkeep2 fun k e => by cases e; exact hgc
  · intro k e
    cases e
    exact ⟨.inr rfl, hgc⟩
  · intro k hf
    have e : (w2.setCell ⟨c, 0, none⟩ (.slice (some ⟨g, 0, none⟩) (n + 1) cap)).heap.size = w2.heap.size := by simp [World.setCell]
    rw [e]
    rcases hf with hf | rfl
    · exact Nat.lt_of_lt_of_le (h.lt k hf) hk.size
    · exact hlt
  · intro k e
    cases e
    exact hgb
  · rw [hlen]
    rw [hn] at hmap
    exact map_keeps (S := (· ≠ c)) hmap hkeep2 h.bc
end Go.Proofs.Ytpepmjkkckgkkaa
