/-
  The heap's own methods over the program's clock, by contract: Pop.
-/
import Derived.Test.YtpepmjkkckgkkaaAlarmL2
namespace Go.Proofs.Ytpepmjkkckgkkaa
open Go.RowKit

/-- 'delete(m, k)' as a step of a region that draws. -/
theorem step_delete_own {P : Program} {w : World} {ops : Array Oper} {o : Oper} {a : Act} {K : Act → World → Prop} {Q : Exit → Act → World → Prop} {E : Prop} (hgd : o.guard = none) (m x : Operand) (t k : TypeId)
    (hop : o.op = Op.call { callee := Callee.builtin Builtin.delete, args := #[m, x], argTypes := #[t, k] }) (e : TypeId) (KY : Maps.Keyed P k) (ht : P.underlying t = some (.map k e)) (R : Value → Option (DataW Unit × List MemPlace)) (b n : Nat) (D : DataW Unit)
    (hm : a.eval m = .map (some b)) (hown : w.ownsMap P k R b n D) (u : Value) (kl : Lit) (hx : a.eval x = u) (hkey : keyOf P k u = some kl)
    (h : ∀ w', w'.ownsMap P k R b n (D.del kl) → w.mapTurned w' b → K (a.put o.dst (.tuple #[])) w') :
    if Region.wanted o (yielded ops a.tmps) = true then Oper.wp P o a w K Q else E := by
  have hw : Region.wanted o (yielded ops a.tmps) = true := by simp [Region.wanted, hgd]
  rw [if_pos hw]
  obtain ⟨w', hrun, r1, r2⟩ := hown.drop KY ht hkey o.type
  unfold Oper.wp
  simp [execOp, hop, resolve, invoke, builtin, hm, hx, hrun, Result.andThen]
  exact h w' r1 r2

theorem own_shrink {w : World} {base : Nat} {e : TypeId} {size g n cap : Nat} {xs ys : List Value} (h : w.ownsRow base e size (.slice (some ⟨g, 0, none⟩) (n + 1) cap) (n + 1) (xs ++ ys)) (hl : xs.length = n * size) :
    w.ownsRow base e size (.slice (some ⟨g, 0, none⟩) n cap) n xs := by
  rcases h with ⟨hlen, ⟨h1, _⟩ | ⟨g', cap', cur, h1, h2, h3, h4, h5, h6, h7⟩⟩
  · cases h1
  · cases h1
    refine ⟨hl, .inr ⟨_, _, cur, rfl, h2, h3, by omega, h5, h6, ?_⟩⟩
    have h8 := congrArg (List.take (n * size)) h7
    rw [List.take_take, Nat.min_eq_left (Nat.mul_le_mul_right _ (Nat.le_succ n)), ← hl, List.take_left] at h8
    rw [← hl]
    exact h8
/-- The row is shorter by one, the map not yet. -/
structure Cut (w : World) (F : Nat → Prop) (c g n cap b : Nat) (D : DataW Unit) (L : List Due) : Prop where
  box : w.heap[c]? = some (.cells #[.slice (some ⟨g, 0, none⟩) n cap, .map (some b)] 51 (0, 0))
  own : w.ownsRow 0 56 2 (.slice (some ⟨g, 0, none⟩) n cap) n (its L)
  map : w.ownsMap Try.prog 3 (plainElem Try.prog 3) b (n + 1) D
theorem cut_of {w : World} {F : Nat → Prop} {c g n cap b : Nat} {D : DataW Unit} {L : List Due} {x : Due} (h : Half w F c g (n + 1) cap b D (L ++ [x])) (o : Obj) :
    Cut ((w.setCell ⟨c, 0, none⟩ (.slice (some ⟨g, 0, none⟩) n cap)).alloc o) F c g n cap b D L ∧ Moved F F w ((w.setCell ⟨c, 0, none⟩ (.slice (some ⟨g, 0, none⟩) n cap)).alloc o) := by
  have hcl := h.lt c h.fc
  have hL : L.length = n := by have := h.len; simp at this; exact this
  have hk : Keeps (· ≠ c) w (w.setCell ⟨c, 0, none⟩ (.slice (some ⟨g, 0, none⟩) n cap)) := Keeps.refl.setCell (by simp) _
  have hown := h.own
  rw [its_snoc] at hown
  have ho := own_shrink hown (by rw [length_its, hL])
  have hs : (w.setCell ⟨c, 0, none⟩ (.slice (some ⟨g, 0, none⟩) n cap)).heap.size = w.heap.size := by simp [World.setCell]
  have mv : Moved F F w (w.setCell ⟨c, 0, none⟩ (.slice (some ⟨g, 0, none⟩) n cap)) := Moved.setCell h.fc _
  refine ⟨⟨?_, (own_keeps ho hk fun k e => by cases e; exact h.gc).alloc o, (map_keeps (S := (· ≠ c)) h.map hk h.bc).alloc o⟩, ⟨mv.1.alloc o, mv.2⟩⟩
  rw [Below.heap_alloc _ _ _ (by rw [hs]; exact hcl), heap_setCell_same w c 0 _ _ _ h.box]
  rfl
theorem Cut.held {w w0 : World} {F : Nat → Prop} {c g n cap b : Nat} {D D' : DataW Unit} {L L0 : List Due} (h0 : Half w0 F c g (n + 1) cap b D L0) (h : Cut w F c g n cap b D' L) (hL : L.length = n) (hp : Plc D' L) (hs : w0.heap.size ≤ w.heap.size) : Held w F c L := by
  subst hL
  have := h0.short
  exact ⟨_, _, h.box, h.own, h0.fc, fun g' hg' => by cases hg'; exact ⟨h0.fg, h0.gc⟩, fun k hf => Nat.lt_of_lt_of_le (h0.lt k hf) hs, .inr ⟨b, D', rfl, h0.fb, h0.bc, fun g' hg' => by cases hg'; exact h0.gb, (ownsMap_tight h.map).mono (by rw [hp.size]; exact Nat.le_refl _), hp⟩, by omega⟩
theorem Cut.del {w w' : World} {F : Nat → Prop} {c g n cap b : Nat} {D D' : DataW Unit} {L L0 : List Due} {w0 : World} (h0 : Half w0 F c g (n + 1) cap b D L0) (hs : w0.heap.size ≤ w.heap.size) (h : Cut w F c g n cap b D L) (ho : w'.ownsMap Try.prog 3 (plainElem Try.prog 3) b (n + 1) D') (ht : w.mapTurned w' b) :
    Cut w' F c g n cap b D' L ∧ Moved F F w w' :=
  ⟨⟨(turned_block ht (Nat.lt_of_lt_of_le (h0.lt _ h0.fc) hs) h0.bc.symm).trans h.box, h.own.kept ht.grown (.inr fun e => h0.gb (by cases e; rfl)), ho⟩, Moved.turned ht h0.fb⟩

set_option maxHeartbeats 1000000 in
theorem line_pop (w : World) (F : Nat → Prop) (c : Nat) (L : List Due) (x : Due) (h : Held w F c (L ++ [x])) :
    Calls Try.prog 46 #[.pointer (some ⟨c, 0, none⟩)] w fun e w' => e = .returned (.iface 56 (.agg #[.int .i64 x.2, .int .i64 x.1])) ∧ Held w' F c L ∧ Moved F F w w' := by
  obtain ⟨v, mv, h⟩ := h
  obtain ⟨c0, c1⟩ := h.cells
  obtain ⟨g, cap, rfl, hfg, hgc, hnc, hm, hc⟩ := h.pos (by simp)
  rcases h.map with ⟨_, hL⟩ | ⟨b, D, rfl, hfb, hbc, hgb, hmap, hplc⟩
  · simp at hL
  have hgl : g < w.heap.size := h.lt g hfg
  have hcl : c < w.heap.size := h.lt c h.fc
  have hbl : b < w.heap.size := h.lt b hfb
  have hgb' : g ≠ b := hgb g rfl
  have i0 := hc.id L.length (by simp)
  have i1 := hc.time L.length (by simp)
  rw [at_last] at i0 i1
  have hi := (hplc.at_ L.length (by simp)).1
  rw [at_last] at hi
  have hp := hplc.pop
  have hlen : (L ++ [x]).length = L.length + 1 := by simp
  have z0 := frozen_of_row w c 0 _ _ h.box
  obtain ⟨hbox, hown, hfc, hfv, hlt, _, hsh⟩ := h
  rw [hlen] at c0 hnc hbox hown hmap hsh
  have hh : Half w F c g (L.length + 1) cap b D (L ++ [x]) := ⟨hbox, hown, hlen, hmap, hfc, hfg, hfb, hgc, hbc, hgb', hlt, hsh⟩
  have hcut := cut_of hh (.cells #[.int .i64 x.2, .int .i64 x.1] 56)
  have hlast := heap_alloc_new (w.setCell ⟨c, 0, none⟩ (.slice (some ⟨g, 0, none⟩) L.length cap)) (.cells #[.int .i64 x.2, .int .i64 x.1] 56)
  have hs0 : (w.setCell ⟨c, 0, none⟩ (.slice (some ⟨g, 0, none⟩) L.length cap)).heap.size = w.heap.size := by simp [World.setCell]
  rw [hs0] at hlast
  have HS : Hid (w.heap.size ≤ ((w.setCell ⟨c, 0, none⟩ (.slice (some ⟨g, 0, none⟩) L.length cap)).alloc (.cells #[.int .i64 x.2, .int .i64 x.1] 56)).heap.size) := Lib.hid (hcut.2.1.size)
  have HH := Lib.hid hh
  have HC := Lib.hid hcut
  have HP := Lib.hid hp
  have HLA := Lib.hid hlast
  clear hc hbox hown hfv hlt hmap hplc hh hcut hp hlast hs0 hgb
  generalize hn : L.length = n at *
  have HN := Lib.hid hn
  clear hn hlen
  obtain ⟨t, y⟩ := x
  simp only at *
  have hlt1 : n ≤ 200000 := by omega
  go_enter Try.func46, Try.ntmps46
  go_wp2_with fail
  clear c0 c1 i0 i1 z0
  generalize World.alloc (World.setCell w _ _) _ = wx at *
  generalize hm : w.heap.size = m at *
  have HMM := Lib.hid hm
  clear hm
  obtain ⟨hcut, mv⟩ := HC.out
  have HV := Lib.hid mv
  have HCU := Lib.hid hcut
  clear HC hcut mv
  have d0 := box_at HCU.out.box 0 rfl
  have d1 := box_at HCU.out.box 1 rfl
  have e0 := box_at HLA.out 0 rfl
  have e1 := box_at HLA.out 1 rfl
  have HMP : Hid (wx.drew.ownsMap Try.prog 3 (plainElem Try.prog 3) b (n + 1) D) := Lib.hid HCU.out.map
  have HKY := Lib.hid (Maps.keyOf_int_mk Try.underlying3 hi)
  go_region_law (refine step_delete_own rfl (.tmp 30) (.tmp 32) 47 3 rfl 3 (Maps.int_keyed Try.underlying3) Try.underlying47 (plainElem Try.prog 3) b (n + 1) D (by simp [Act.eval]) HMP.out (.int .i64 y) (key y) (by simp [Act.eval]) HKY.out ?_
                 intro w2 ho2 ht2
                 have hd := Cut.del HH.out (HMM.out ▸ HS.out) (w := wx.drew) (L := L) (⟨HCU.out.box, HCU.out.own, HCU.out.map⟩ : Cut wx.drew F c g n cap b D L) ho2 ht2
                 have HD := Lib.hid hd
                 have HB2 := Lib.hid ((turned_block ht2 (k := m) (lt_of_block HLA.out) (by omega)).trans HLA.out)
                 have HSZ := Lib.hid (show w.heap.size ≤ w2.heap.size from HMM.out ▸ Nat.le_trans HS.out ht2.grown.size)
                 clear ho2 ht2 hd)
  all_goals
    clear d0 d1 e0 e1
    have e0 := box_at HB2.out 0 rfl
    have e1 := box_at HB2.out 1 rfl
    go_wp2_with fail
    go_ret
    exact ⟨rfl, HD.out.1.held HH.out HN.out HP.out HSZ.out, (HV.out.trans (Moved.drewN 1)).trans HD.out.2⟩
end Go.Proofs.Ytpepmjkkckgkkaa
