/-
  The heap's own methods over the program's clock, by contract: Len, Less, Swap, Push, Pop.
-/
import Derived.Test.YtpepmjkkckgkkaaAlarmK
import Derived.Test.YtpepmjkkckgkkaaWireCt
import Derived.BigRegion
import Derived.Deep.RegionLaw
namespace Go.Proofs.Ytpepmjkkckgkkaa
open Go.RowKit

theorem Rep.slice {w : World} {F : Nat → Prop} {c : Nat} {v mv : Value} {L : List Due} (h : Rep w F c v mv L) : ∃ a cap, v = .slice a L.length cap ∧ L.length ≤ cap ∧ cap ≤ maxLen := by
  obtain ⟨a, cap, rfl, _, _, h1, h2⟩ := rdT_own h.own
  exact ⟨a, cap, rfl, h1, h2⟩
/-- What stands at the places, in memory. -/
structure Cells (w : World) (g : Nat) (L : List Due) : Prop where
  id : ∀ k, k < L.length → w.cell? ⟨g, k * 2, none⟩ = some (.int .i64 (at_ L k).2)
  time : ∀ k, k < L.length → w.cell? ⟨g, k * 2 + 1, none⟩ = some (.int .i64 (at_ L k).1)
theorem Rep.pos {w : World} {F : Nat → Prop} {c : Nat} {v mv : Value} {L : List Due} (h : Rep w F c v mv L) (hL : 0 < L.length) :
    ∃ g cap, v = .slice (some ⟨g, 0, none⟩) L.length cap ∧ F g ∧ g ≠ c ∧ L.length ≤ cap ∧ cap ≤ maxLen ∧ Cells w g L := by
  obtain ⟨g, cap, rfl, _, hg⟩ := h.own.form hL
  obtain ⟨a, cap', he, h1, h2⟩ := h.slice
  cases he
  have hf := h.fv g rfl
  refine ⟨g, cap, rfl, hf.1, hf.2, h1, h2, ⟨fun k hk => ?_, fun k hk => ?_⟩⟩
  · have h1 := h.own.cellAt (k * 2 + 0) (by omega)
    rw [its_get L k hk 0 (by omega)] at h1
    rw [at_get hk]
    exact h1
  · have h1 := h.own.cellAt (k * 2 + 1) (by omega)
    rw [its_get L k hk 1 (by omega)] at h1
    rw [at_get hk]
    exact h1
theorem Rep.cells {w : World} {F : Nat → Prop} {c : Nat} {v mv : Value} {L : List Due} (h : Rep w F c v mv L) : w.cell? ⟨c, 0, none⟩ = some v ∧ w.cell? ⟨c, 1, none⟩ = some mv :=
  ⟨box_at h.box 0 rfl, box_at h.box 1 rfl⟩

theorem line_len (w : World) (F : Nat → Prop) (c : Nat) (L : List Due) (h : Held w F c L) :
    Calls Try.prog 25 #[.pointer (some ⟨c, 0, none⟩)] w fun e w' => e = .returned (.int .i64 (L.length : Int)) ∧ w' = w := by
  obtain ⟨v, mv, h⟩ := h
  obtain ⟨c0, c1⟩ := h.cells
  obtain ⟨a, cap, rfl, _, _⟩ := h.slice
  clear h
  generalize L.length = n at *
  go_enter Try.func25, Try.ntmps25
  go_wp2_with fail
  go_ret
  exact ⟨rfl, rfl⟩

theorem not_lq (a b : Due) : ¬ lq b a ↔ a.1 < b.1 ∨ a.1 = b.1 ∧ a.2 < b.2 := by unfold lq; omega
set_option maxHeartbeats 1000000 in
theorem line_less (w : World) (F : Nat → Prop) (c : Nat) (L : List Due) (i j : Nat) (h : Held w F c L) (hi : i < L.length) (hj : j < L.length) :
    Calls Try.prog 45 #[.pointer (some ⟨c, 0, none⟩), .int .i64 i, .int .i64 j] w fun e w' => e = .returned (.bool (decide (¬ lq (at_ L j) (at_ L i)))) ∧ Below w.heap.size w w' := by
  obtain ⟨v, mv, h⟩ := h
  obtain ⟨c0, _⟩ := h.cells
  obtain ⟨g, cap, rfl, hfg, _, _, hm, hc⟩ := h.pos (by omega)
  have hgl : g < w.heap.size := h.lt g hfg
  have hcl : c < w.heap.size := h.lt c h.fc
  have i0 := hc.id i hi
  have i1 := hc.time i hi
  have j0 := hc.id j hj
  have j1 := hc.time j hj
  have hq := not_lq (at_ L i) (at_ L j)
  have HQ := Lib.hid hq
  clear hc h hq
  generalize at_ L i = x at *
  generalize at_ L j = y at *
  obtain ⟨xt, xi⟩ := x
  obtain ⟨yt, yi⟩ := y
  generalize hn : L.length = n at *
  clear hn
  simp only at i0 i1 j0 j1
  have hb : Below w.heap.size w w := Below.refl _ _
  have hi0 : (0 : Int) ≤ i := by omega
  have hj0 : (0 : Int) ≤ j := by omega
  have hi1 : (i : Int) < n := by omega
  have hj1 : (j : Int) < n := by omega
  by_cases ht : xt = yt
  · subst ht
    have hr : decide (¬ lq (xt, yi) (xt, xi)) = decide (xi < yi) := decide_eq_decide.2 (HQ.out.trans (by simp))
    rw [hr]
    clear hr HQ
    go_enter Try.func45, Try.ntmps45
    go_wp2_with fail
    go_big_region
    all_goals
      go_wp2_with fail
      go_ret
      exact ⟨rfl, below_drawn ((hb.alloc (Nat.le_refl _) _).alloc (by simp) _) _⟩
  · have hr : decide (¬ lq (yt, yi) (xt, xi)) = decide (xt < yt) := decide_eq_decide.2 (HQ.out.trans (by simp; omega))
    rw [hr]
    clear hr HQ
    have htb : (xt != yt) = true := by simpa using ht
    go_enter Try.func45, Try.ntmps45
    go_wp2_with fail
    go_big_region
    all_goals
      go_wp2_with fail
      go_ret
      exact ⟨rfl, below_drawn ((hb.alloc (Nat.le_refl _) _).alloc (by simp) _) _⟩
end Go.Proofs.Ytpepmjkkckgkkaa
