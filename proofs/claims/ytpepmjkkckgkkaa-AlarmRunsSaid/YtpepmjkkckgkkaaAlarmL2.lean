/-
  The heap's own methods over the program's clock, by contract: Swap.
-/
import Derived.Test.YtpepmjkkckgkkaaAlarmL
namespace Go.Proofs.Ytpepmjkkckgkkaa
open Go.RowKit

theorem its_cons (b : Due) (t : List Due) : its (b :: t) = .int .i64 b.2 :: .int .i64 b.1 :: its t := by simp [its, itv]
theorem its_set : ∀ (L : List Due) (i : Nat) (e : Due), its (L.set i e) = ((its L).set (i * 2) (.int .i64 e.2)).set (i * 2 + 1) (.int .i64 e.1)
  | [], i, e => by simp [its]
  | b :: t, 0, e => by simp [its_cons]
  | b :: t, i + 1, e => by
    have ih := its_set t i e
    have h1 : (i + 1) * 2 = i * 2 + 1 + 1 := by omega
    rw [List.set_cons_succ, its_cons, ih, its_cons, h1]
    simp [List.set_cons_succ]
theorem its_sw (L : List Due) (i j : Nat) {x y : Due} (hX : at_ L i = x) (hY : at_ L j = y) :
    its (sw L i j) = ((((its L).set (i * 2) (.int .i64 y.2)).set (i * 2 + 1) (.int .i64 y.1)).set (j * 2) (.int .i64 x.2)).set (j * 2 + 1) (.int .i64 x.1) := by
  unfold sw
  rw [its_set, its_set, hX, hY]
theorem Moved.setCell {F : Nat → Prop} {w : World} {p : Addr} (hp : F p.block) (u : Value) : Moved F F w (w.setCell p u) := ⟨Keeps.refl.setCell (fun h => h hp) u, fun _ h => .inl h⟩
theorem Moved.drewN {F : Nat → Prop} {w : World} (n : Nat) : Moved F F w (w.drewN n) := ⟨Keeps.refl.drewN n, fun _ h => .inl h⟩
theorem Moved.turned {F : Nat → Prop} {w w' : World} {b : Nat} (h : w.mapTurned w' b) (hb : F b) : Moved F F w w' :=
  ⟨Keeps.of_grown h.grown (fun k hk hn => hn (by cases hk; exact hb)), fun _ h => .inl h⟩
theorem turned_block {w w' : World} {b k : Nat} (h : w.mapTurned w' b) (hk : k < w.heap.size) (hb : k ≠ b) : w'.heap[k]? = w.heap[k]? := h.grown.block k hk (fun e => hb (by cases e; rfl))

/-- The marks have changed their places, the map has not yet. -/
structure Half (w : World) (F : Nat → Prop) (c g n cap b : Nat) (D : DataW Unit) (L : List Due) : Prop where
  box : w.heap[c]? = some (.cells #[.slice (some ⟨g, 0, none⟩) n cap, .map (some b)] 51 (0, 0))
  own : w.ownsRow 0 56 2 (.slice (some ⟨g, 0, none⟩) n cap) n (its L)
  len : L.length = n
  map : w.ownsMap Try.prog 3 (plainElem Try.prog 3) b n D
  fc : F c
  fg : F g
  fb : F b
  gc : g ≠ c
  bc : b ≠ c
  gb : g ≠ b
  lt : ∀ k, F k → k < w.heap.size
  short : n ≤ 200000
theorem Half.drewN {w : World} {F : Nat → Prop} {c g n cap b : Nat} {D : DataW Unit} {L : List Due} (h : Half w F c g n cap b D L) (m : Nat) : Half (w.drewN m) F c g n cap b D L :=
  ⟨h.box, h.own, h.len, h.map, h.fc, h.fg, h.fb, h.gc, h.bc, h.gb, h.lt, h.short⟩
theorem Half.drew {w : World} {F : Nat → Prop} {c g n cap b : Nat} {D : DataW Unit} {L : List Due} (h : Half w F c g n cap b D L) : Half w.drew F c g n cap b D L :=
  ⟨h.box, h.own, h.len, h.map, h.fc, h.fg, h.fb, h.gc, h.bc, h.gb, h.lt, h.short⟩
theorem Half.held {w : World} {F : Nat → Prop} {c g n cap b : Nat} {D : DataW Unit} {L : List Due} (h : Half w F c g n cap b D L) (hp : Plc D L) : Held w F c L := by
  obtain ⟨hbox, hown, rfl, hmap, hfc, hfg, hfb, hgc, hbc, hgb, hlt, hsh⟩ := h
  exact ⟨_, _, hbox, hown, hfc, fun g' hg' => by cases hg'; exact ⟨hfg, hgc⟩, hlt, .inr ⟨b, D, rfl, hfb, hbc, fun g' hg' => by cases hg'; exact hgb, hmap, hp⟩, hsh⟩
theorem Half.cell {w : World} {F : Nat → Prop} {c g n cap b : Nat} {D : DataW Unit} {L : List Due} (h : Half w F c g n cap b D L) {k : Nat} (hk : k < n) : w.cell? ⟨g, k * 2, none⟩ = some (.int .i64 (at_ L k).2) := by
  have hk' : k < L.length := h.len.symm ▸ hk
  have h1 := h.own.cellAt (k * 2 + 0) (by omega)
  rw [its_get L k hk' 0 (by omega)] at h1
  rw [at_get hk']
  exact h1
theorem Half.put {w : World} {F : Nat → Prop} {c g n cap b : Nat} {D : DataW Unit} {L : List Due} (h : Half w F c g n cap b D L) {x : Int} {k : Nat} (hx : I64 x) (hk : k < n) (hs : Maps.size (D.put (key x) (.lit (key (k : Int)))) ≤ n) :
    ∃ w', (Instr.mapUpdate 47 (.map (some b)) (.int .i64 x) (.int .i64 (k : Int))).run Try.prog w = .ok () w' ∧ Half w' F c g n cap b (D.put (key x) (.lit (key (k : Int)))) L ∧ Moved F F w w' := by
  have hsh := h.short
  obtain ⟨w', hr, ho, ht⟩ := h.map.store (Maps.int_keyed Try.underlying3) Try.underlying47 (by unfold maxLen; omega) (key := .int .i64 x) (val := .int .i64 (k : Int)) (Maps.keyOf_int_mk Try.underlying3 hx) (plainElem_int Try.underlying3 (i64_of (x := (k : Int)) (by omega) (by omega)))
  have hsz : w.heap.size ≤ w'.heap.size := ht.grown.size
  refine ⟨w', hr, ⟨(turned_block ht (h.lt _ h.fc) h.bc.symm).trans h.box, h.own.kept ht.grown (.inr fun e => h.gb (by cases e; rfl)), h.len, (ownsMap_tight ho).mono hs, h.fc, h.fg, h.fb, h.gc, h.bc, h.gb, fun k hf => Nat.lt_of_lt_of_le (h.lt k hf) hsz, h.short⟩, Moved.turned ht h.fb⟩
theorem half_swapped {w : World} {F : Nat → Prop} {c g n cap b : Nat} {D : DataW Unit} {L : List Due} (h : Half w F c g n cap b D L) {i j : Nat} {x y : Due} (hX : at_ L i = x) (hY : at_ L j = y) :
    Half ((((w.setCell ⟨g, i * 2, none⟩ (.int .i64 y.2)).setCell ⟨g, i * 2 + 1, none⟩ (.int .i64 y.1)).setCell ⟨g, j * 2, none⟩ (.int .i64 x.2)).setCell ⟨g, j * 2 + 1, none⟩ (.int .i64 x.1)) F c g n cap b D (sw L i j) ∧
    Moved F F w ((((w.setCell ⟨g, i * 2, none⟩ (.int .i64 y.2)).setCell ⟨g, i * 2 + 1, none⟩ (.int .i64 y.1)).setCell ⟨g, j * 2, none⟩ (.int .i64 x.2)).setCell ⟨g, j * 2 + 1, none⟩ (.int .i64 x.1)) := by
  have o1 := (h.own.stored (i * 2) (.int .i64 y.2)).1
  have o2 := (o1.stored (i * 2 + 1) (.int .i64 y.1)).1
  have o3 := (o2.stored (j * 2) (.int .i64 x.2)).1
  have o4 := (o3.stored (j * 2 + 1) (.int .i64 x.1)).1
  rw [← its_sw L i j hX hY] at o4
  have mv := (((Moved.setCell (F := F) (w := w) (p := ⟨g, i * 2, none⟩) h.fg (.int .i64 y.2)).trans (Moved.setCell (p := ⟨g, i * 2 + 1, none⟩) h.fg (.int .i64 y.1))).trans (Moved.setCell (p := ⟨g, j * 2, none⟩) h.fg (.int .i64 x.2))).trans (Moved.setCell (p := ⟨g, j * 2 + 1, none⟩) h.fg (.int .i64 x.1))
  have hk : ∀ (w0 : World) (o : Nat) (u : Value) (k : Nat), k ≠ g → (w0.setCell ⟨g, o, none⟩ u).heap[k]? = w0.heap[k]? := fun w0 o u k hk => Below.heap_setCell _ _ _ _ (fun e => hk e)
  refine ⟨⟨?_, o4, by rw [length_sw]; exact h.len, (((h.map.setCell (a := ⟨g, i * 2, none⟩) h.gb.symm _).setCell (a := ⟨g, i * 2 + 1, none⟩) h.gb.symm _).setCell (a := ⟨g, j * 2, none⟩) h.gb.symm _).setCell (a := ⟨g, j * 2 + 1, none⟩) h.gb.symm _, h.fc, h.fg, h.fb, h.gc, h.bc, h.gb, fun k hf => ?_, h.short⟩, mv⟩
  · rw [hk _ _ _ _ h.gc.symm, hk _ _ _ _ h.gc.symm, hk _ _ _ _ h.gc.symm, hk _ _ _ _ h.gc.symm]
    exact h.box
  · exact Nat.lt_of_lt_of_le (h.lt k hf) mv.1.size

set_option maxHeartbeats 1000000 in
theorem line_swap (w : World) (F : Nat → Prop) (c : Nat) (L : List Due) (i j : Nat) (h : Held w F c L) (hi : i < L.length) (hj : j < L.length) :
    Calls Try.prog 48 #[.pointer (some ⟨c, 0, none⟩), .int .i64 i, .int .i64 j] w fun e w' => e = .returned (.tuple #[]) ∧ Held w' F c (sw L i j) ∧ Moved F F w w' := by
  obtain ⟨v, mv, h⟩ := h
  obtain ⟨c0, c1⟩ := h.cells
  obtain ⟨g, cap, rfl, hfg, hgc, _, hm, hc⟩ := h.pos (by omega)
  rcases h.map with ⟨_, hL⟩ | ⟨b, D, rfl, hfb, hbc, hgb, hmap, hplc⟩
  · subst hL; simp at hi
  have hgl : g < w.heap.size := h.lt g hfg
  have hcl : c < w.heap.size := h.lt c h.fc
  have hbl : b < w.heap.size := h.lt b hfb
  have hgb' : g ≠ b := hgb g rfl
  have i0 := hc.id i hi
  have i1 := hc.time i hi
  have j0 := hc.id j hj
  have j1 := hc.time j hj
  have z0 := h.own.frozenAt (i * 2)
  have z1 := h.own.frozenAt (i * 2 + 1)
  have z2 := h.own.frozenAt (j * 2)
  have z3 := h.own.frozenAt (j * 2 + 1)
  have hhalf : Half w F c g L.length cap b D L := ⟨h.box, h.own, rfl, hmap, h.fc, hfg, hfb, hgc, hbc, hgb', h.lt, h.short⟩
  have hsw := half_swapped hhalf (i := i) (j := j) rfl rfl
  have hp := hplc.swap hi hj
  have hpi := (hplc.at_ i hi).1
  have hpj := (hplc.at_ j hj).1
  have hsz := hp.size
  have hx1 : at_ (sw L i j) i = at_ L j := by
    rw [at_sw hi hj]
    by_cases e : i = j
    · rw [if_pos e, e]
    · rw [if_neg e, if_pos rfl]
  have hx2 : at_ (sw L i j) j = at_ L i := by rw [at_sw hi hj, if_pos rfl]
  rw [length_sw] at hsz
  have hsz1 : Maps.size (D.put (key (at_ L j).2) (.lit (key (i : Int)))) ≤ L.length := by
    rw [Maps.size_put hplc.tidy, (hplc.has _).2 ⟨_, at_mem hj, rfl⟩, if_pos rfl, hplc.size]
    exact Nat.le_refl _
  have HF := Lib.hid (And.intro h.short (And.intro (length_sw L i j) (And.intro hp (And.intro hx1 hx2))))
  have HS := Lib.hid hsw
  have HZ := Lib.hid hsz
  have HZ1 := Lib.hid hsz1
  clear hc h hhalf hmap hplc hp hx1 hx2 hsw hsz hsz1 hgb
  generalize hT : sw L i j = T at *
  generalize at_ L i = x at *
  generalize at_ L j = y at *
  obtain ⟨xt, xi⟩ := x
  obtain ⟨yt, yi⟩ := y
  simp only at i0 i1 j0 j1 hpi hpj
  generalize L.length = n at *
  clear hT
  have hi0 : (0 : Int) ≤ i := by omega
  have hj0 : (0 : Int) ≤ j := by omega
  have hi1 : (i : Int) < n := by omega
  have hj1 : (j : Int) < n := by omega
  by_cases hij : i = j
  · subst hij
    have hxy : (yt, yi) = (xt, xi) := HF.out.2.2.2.1.symm.trans HF.out.2.2.2.2
    simp only [Prod.mk.injEq] at hxy
    obtain ⟨rfl, rfl⟩ := hxy
    go_enter Try.func48, Try.ntmps48
    go_wp2_with fail
    go_big_region
    clear c0 c1 i0 i1 j0 j1 z0 z1 z2 z3
    generalize World.setCell (World.setCell (World.setCell (World.setCell w _ _) _ _) _ _) _ _ = wx at *
    obtain ⟨hx, mx⟩ := HS.out
    clear HS
    have d0 := box_at hx.box 0 rfl
    have d1 := box_at hx.box 1 rfl
    have k0 := hx.cell hi
    rw [HF.out.2.2.2.1] at k0
    obtain ⟨w1, hr1, h1, m1⟩ := hx.drew.drew.put hpj hi HZ1.out
    go_wp2_with fail
    go_big_region
    have e0 := box_at h1.box 0 rfl
    have e1 := box_at h1.box 1 rfl
    have q0 := h1.cell hj
    rw [HF.out.2.2.2.2] at q0
    have HR1 := Lib.hid (((mx.trans (Moved.drewN 2)).trans m1))
    clear hr1 m1 d0 d1 k0 mx hx
    obtain ⟨w2, hr2, h2, m2⟩ := h1.drew.put hpi hj (Nat.le_of_eq HZ.out)
    go_wp2_with fail
    go_big_region
    have HR2 := Lib.hid ((HR1.out.trans (Moved.drewN 1)).trans m2)
    have hend := h2.held HF.out.2.2.1
    clear e0 e1 q0 hr2 h2 m2 h1
    go_wp2_with fail
    refine bodyPost_end (results_none rfl _ _ _) rfl ?_
    exact ⟨rfl, hend, HR2.out⟩
  have hij' : ¬ j = i := fun e => hij e.symm
  have hij2 : ¬ i * 2 = j * 2 := by omega
  have hij3 : ¬ i * 2 + 1 = j * 2 := by omega
  have hij4 : ¬ i * 2 = j * 2 + 1 := by omega
  go_enter Try.func48, Try.ntmps48
  go_wp2_with fail
  go_big_region
  clear c0 c1 i0 i1 j0 j1 z0 z1 z2 z3
  generalize World.setCell (World.setCell (World.setCell (World.setCell w _ _) _ _) _ _) _ _ = wx at *
  obtain ⟨hx, mx⟩ := HS.out
  clear HS
  have d0 := box_at hx.box 0 rfl
  have d1 := box_at hx.box 1 rfl
  have k0 := hx.cell hi
  rw [HF.out.2.2.2.1] at k0
  obtain ⟨w1, hr1, h1, m1⟩ := hx.drew.drew.put hpj hi HZ1.out
  go_wp2_with fail
  go_big_region
  have e0 := box_at h1.box 0 rfl
  have e1 := box_at h1.box 1 rfl
  have q0 := h1.cell hj
  rw [HF.out.2.2.2.2] at q0
  have HR1 := Lib.hid (((mx.trans (Moved.drewN 2)).trans m1))
  clear hr1 m1 d0 d1 k0 mx hx
  obtain ⟨w2, hr2, h2, m2⟩ := h1.drew.put hpi hj (Nat.le_of_eq HZ.out)
  go_wp2_with fail
  go_big_region
  have HR2 := Lib.hid ((HR1.out.trans (Moved.drewN 1)).trans m2)
  have hend := h2.held HF.out.2.2.1
  clear e0 e1 q0 hr2 h2 m2 h1
  go_wp2_with fail
  refine bodyPost_end (results_none rfl _ _ _) rfl ?_
  exact ⟨rfl, hend, HR2.out⟩
end Go.Proofs.Ytpepmjkkckgkkaa
