/-
  The document's answer for layer 7, by contract: Own.
-/
import Derived.Test.YtkghkioghkapcaaObjP
import Derived.Deep.RegionLaw
namespace Go.Proofs.Ytkghkioghkapcaa
open Go.RowKit Go.Sort

theorem tab_laid {w4 : World} {B p : Nat} {v vc vr : Value} {t : Tab} (hc : OwnX colQ w4 p 41 3 vc t.cols) (hr : OwnX rulP w4 p 56 8 vr t.rules) (hB : B ≤ p) (hl : ∀ g, v.ownBlock = some g → g < p) :
    tabP w4 (fun k => Sf B w4 k ∧ v.ownBlock ≠ some k) (tabV t vc vr) t := by
  have hS : ∀ k, Sf p w4 k → Sf B w4 k ∧ v.ownBlock ≠ some k := fun k hk => ⟨hk.mono hB, fun e => by have := hl k e; have := hk.1; omega⟩
  exact ⟨vc, vr, rfl, cols_keep (hc.lst col_stays) hS Keeps.refl, ruls_keep (hr.lst rul_stays) hS Keeps.refl⟩

/-- How far tables have been laid into the box p2. -/
def Filled (w2 : World) (p2 : Nat) (vs vt : Value) (l : List Tab) (wr : World) : Prop :=
  wr.heap[p2]? = some (.cells #[vs, vt] 26 (0, 0)) ∧ OwnX tabP wr w2.heap.size 35 5 vt l ∧ Keeps (fun j => j < w2.heap.size ∧ j ≠ p2) w2 wr ∧ p2 < w2.heap.size
theorem filled_next {w2 wr w4 : World} {p2 : Nat} {vs vt vc vr : Value} {l : List Tab} {t : Tab} (h : Filled w2 p2 vs vt l wr) (hc : OwnX colQ w4 wr.heap.size 41 3 vc t.cols) (hr : OwnX rulP w4 wr.heap.size 56 8 vr t.rules) (hb : Below wr.heap.size wr w4) :
    w4.cell? ⟨p2, 1, none⟩ = some vt ∧ ∃ xs, (∀ o, (w4.alloc o).ownsRow w2.heap.size 35 5 vt l.length xs) ∧ ∀ v3 w6 o, w6.ownsRow w2.heap.size 35 5 v3 (l.length + 1) (xs ++ tabV t vc vr) → (w4.alloc o).grownBy w6 vt.ownBlock → (v3.ownBlock = vt.ownBlock ∨ v3.ownBlock = some (w4.heap.size + 1)) →
      w6.cell? ⟨p2, 1, none⟩ = some vt ∧ w6.frozen? ⟨p2, 1, none⟩ = false ∧ Filled w2 p2 vs v3 (l ++ [t]) (w6.setCell ⟨p2, 1, none⟩ v3) := by
  obtain ⟨hbox, hx, hk, hp⟩ := h
  have hpr : p2 < wr.heap.size := lt_of_block hbox
  have hx4 := hx.below tab_stays hb
  have hbox4 := (hb.block p2 hpr).trans hbox
  have hlt : ∀ g, vt.ownBlock = some g → g < wr.heap.size ∧ w2.heap.size ≤ g := fun g hg => ⟨(hx.block hg).lt, (hx.block hg).1⟩
  obtain ⟨xss, hown, hlen, hel⟩ := hx4
  refine ⟨box_at hbox4 1 rfl, xss.flatten, fun o => hown.alloc o, fun v3 w6 o ho hg hat => ?_⟩
  have hpush := OwnX.push (y := t) tab_stays hown hlen hel (tab_laid hc hr (Nat.le_trans (by exact Nat.le_of_not_lt fun hlt' => by have := hk.size; omega) (Nat.le_refl _)) fun g hg' => (hlt g hg').1) ho hg hat
  have hk6 : Keeps (fun j => vt.ownBlock ≠ some j) w4 w6 := (Keeps.refl.alloc o).trans (Keeps.of_grown (S := fun j => vt.ownBlock ≠ some j) hg fun j hj hn => hn hj)
  have hbox6 := hk6.row hbox4 (fun e => by have := hlt p2 e; omega)
  have hv3 : ∀ g, v3.ownBlock = some g → g ≠ p2 := fun g hg' e => by
    subst e
    rcases hat with h | h
    · have := hlt g (h ▸ hg'); omega
    · rw [hg'] at h; injection h with h; have := hb.size; omega
  refine ⟨box_at hbox6 1 rfl, frozen_of_row _ p2 1 _ _ hbox6, ⟨heap_setCell_same _ p2 1 _ _ _ hbox6, hpush.keep tab_stays (S := (· ≠ p2)) (Keeps.refl.setCell (by simp) _) fun j hj e => by have := hj.1; omega, ?_, hp⟩⟩
  refine ((hk.trans ((Keeps.of_below hb (S := fun j => j < w2.heap.size ∧ j ≠ p2) fun j hj => by have := hk.size; omega))).trans (hk6.mono fun j hj e => by have := hlt j e; omega)).setCell (fun h => h.2 rfl) _
def OwnPost (w : World) (o : Objs) (e : Ending) (w' : World) : Prop := ∃ vs vt, e = .returned (.agg #[vs, vt]) ∧ objX w' w.heap.size vs vt o ∧ Below w.heap.size w w'
end Go.Proofs.Ytkghkioghkapcaa
