/-
  Merged: ObpC, ObpC1.
-/
import Derived.Test.YtekhkmhpeefenaaObpB
import Derived.Deep.RegionHeld3
namespace Go.Proofs.Ytekhkmhpeefenaa
section
/-! Layer 7, the program, by contract: the orders, rise. (Made by wip/gen_obp2.py.) -/
open Go.RowKit Go.Sort Go.Shelf

def orI (x y : Int) : Int := if x ≠ 0 then x else y
def tabOrd (a b : Tab) : Int := orI (cmpI a.schema b.schema) (cmpI a.name b.name)
theorem cmpI_lt {a b : ByteArray} : cmpI a b < 0 ↔ ltT a b = true := by
  unfold cmpI
  cases h1 : ltT a b with
  | true => simp
  | false =>
    cases h2 : ltT b a <;> simp
theorem cmpI_zero {a b : ByteArray} : cmpI a b = 0 ↔ a = b := by
  unfold cmpI
  constructor
  · intro h
    rcases ltT_or (a := a) (b := b) with h1 | h1 | h1
    · rw [h1] at h; simp at h
    · exact h1
    · rw [h1, ltT_anti h1] at h; simp at h
  · rintro rfl
    rw [ltT_irr]; rfl
theorem tabOrd_lt {a b : Tab} : tabOrd a b < 0 ↔ ahead a b = true := by
  unfold tabOrd orI ahead
  by_cases h : cmpI a.schema b.schema = 0
  · have e := cmpI_zero.1 h
    rw [if_neg (by simp [h]), e, ltT_irr, eqT_refl]
    simpa using cmpI_lt
  · rw [if_pos h, cmpI_lt]
    have : eqT a.schema b.schema = false := eqT_no.2 fun e => h (cmpI_zero.2 e)
    rw [this]
    simp
theorem tabOrd_zero {a b : Tab} : tabOrd a b = 0 ↔ a.schema = b.schema ∧ a.name = b.name := by
  unfold tabOrd orI
  by_cases h : cmpI a.schema b.schema = 0
  · rw [if_neg (by simp [h]), cmpI_zero]
    exact ⟨fun h2 => ⟨cmpI_zero.1 h, h2⟩, fun h2 => h2.2⟩
  · rw [if_pos h]
    exact ⟨fun h2 => absurd h2 h, fun h2 => cmpI_zero.2 h2.1⟩
/-- Does a list rise, place by place? -/
def riseK {α : Type} (ord : α → α → Int) (l : List α) (k : Nat) : Bool := match l[k]?, l[k + 1]? with
  | some a, some b => decide (ord a b < 0)
  | _, _ => true
def riseB {α : Type} (ord : α → α → Int) (l : List α) : Bool := (List.range (l.length - 1)).all (riseK ord l)
theorem riseK_get {α : Type} {ord : α → α → Int} {l : List α} {k : Nat} (h : k + 1 < l.length) : riseK ord l k = decide (ord l[k] l[k + 1] < 0) := by
  unfold riseK
  rw [List.getElem?_eq_getElem (show k < l.length by omega), List.getElem?_eq_getElem h]

/-- A struct in an old block, loaded in a world of the region's. -/
theorem load_grown {P : Program} {w : World} {b o sz : Nat} {x : List Value} (hsz : x.length = sz) (hb : b < w.heap.size) (hc : ∀ j u, x[j]? = some u → w.cell? ⟨b, o + j, none⟩ = some u) (n : Nat) (os : Array Obj) :
    Sem.run P (loadCellsFrom ⟨b, o, none⟩ 0 sz #[]) (grow (w.drewN n) os) = .ok x.toArray (grow (w.drewN n) os) :=
  run_loadCellsFrom_list P _ _ x sz hsz fun j v hv => by rw [Addr.add_lit]; exact cell_grown (a := ⟨b, o + j, none⟩) hb (hc j v hv) n os

theorem prog_or_any (b : Nat) (x y : Int) (W : World) (h0 : W.cell? ⟨b, 0, none⟩ = some (.int .i64 x)) (h1 : W.cell? ⟨b, 1, none⟩ = some (.int .i64 y)) :
    Calls Try.prog 70 #[.slice (some ⟨b, 0, none⟩) 2 2] W fun e w' => e = .returned (.int .i64 (orI x y)) ∧ W = w' := by
  by_cases hx : x = 0
  · have HF := Lib.hid (show orI x y = y by unfold orI; rw [if_neg (by simp [hx])])
    subst hx
    by_cases hy : y = 0
    · subst hy
      go_enter Try.func70, Try.ntmps70
      go_wp2_with fail
      go_loop [8, 5] (fun i _ => ∃ k : Nat, k ≤ 2 ∧ i = .int .i64 k) (fun i _ => 2 - (intOf i).toNat)
      case atStart => exact ⟨0, by omega, rfl⟩
      case round =>
        obtain ⟨k, hk, rfl⟩ := hrel
        obtain rfl | rfl | rfl : k = 0 ∨ k = 1 ∨ k = 2 := by omega
        · go_wp2_with fail
          go_round
          case rel => exact ⟨1, by omega, rfl⟩
          case measure => simp [intOf]
        · go_wp2_with fail
          go_round
          case rel => exact ⟨2, by omega, rfl⟩
          case measure => simp [intOf]
        · go_wp2_with fail
          go_ret
          exact ⟨by rw [HF.out]; rfl, rfl⟩
    · have hy1 : (y == 0) = false := by simpa using hy
      have hy2 : (y != 0) = true := by simpa using hy
      go_enter Try.func70, Try.ntmps70
      go_wp2_with fail
      go_loop [8, 5] (fun i _ => ∃ k : Nat, k ≤ 1 ∧ i = .int .i64 k) (fun i _ => 2 - (intOf i).toNat)
      case atStart => exact ⟨0, by omega, rfl⟩
      case round =>
        obtain ⟨k, hk, rfl⟩ := hrel
        obtain rfl | rfl : k = 0 ∨ k = 1 := by omega
        · go_wp2_with fail
          go_round
          case rel => exact ⟨1, by omega, rfl⟩
          case measure => simp [intOf]
        · go_wp2_with fail
          go_ret
          exact ⟨by rw [HF.out]; rfl, rfl⟩
  · have HF := Lib.hid (show orI x y = x by unfold orI; rw [if_pos hx])
    have hy1 : (x == 0) = false := by simpa using hx
    have hy2 : (x != 0) = true := by simpa using hx
    go_enter Try.func70, Try.ntmps70
    go_wp2_with fail
    go_loop [8, 5] (fun i _ => i = .int .i64 0) (fun i _ => 2 - (intOf i).toNat)
    case atStart => rfl
    case round =>
      subst hrel
      go_wp2_with fail
      go_ret
      exact ⟨by rw [HF.out]; rfl, rfl⟩

end

section
/-! Layer 7, the program, by contract: the tables' order, rise. (Made by wip/gen_obp2.py.) -/
open Go.RowKit Go.Sort Go.Shelf

/-- Two tables in two boxes, and nothing but new blocks since. -/
structure OrdS (w0 : World) (p : Nat) (a b : Tab) (W : World) : Prop where
  gr : Gr w0 W
  x0 : W.cell? ⟨p, 0, none⟩ = some (.string a.schema)
  x1 : W.cell? ⟨p, 1, none⟩ = some (.string a.name)
  y0 : W.cell? ⟨p + 1, 0, none⟩ = some (.string b.schema)
  y1 : W.cell? ⟨p + 1, 1, none⟩ = some (.string b.name)
/-- .. as a region reads it. -/
def OrdA (w0 : World) (p : Nat) (a b : Tab) (W : World) : Prop := OrdS w0 p a b W
theorem ordS_all {w0 W : World} {p : Nat} {a b : Tab} (h : OrdS w0 p a b W) : W.cell? ⟨p, 0, none⟩ = some (.string a.schema) ∧ W.cell? ⟨p, 1, none⟩ = some (.string a.name) ∧ W.cell? ⟨p + 1, 0, none⟩ = some (.string b.schema) ∧ W.cell? ⟨p + 1, 1, none⟩ = some (.string b.name) ∧ OrdS w0 p a b W := ⟨h.x0, h.x1, h.y0, h.y1, h⟩
theorem OrdS.drew {w0 W : World} {p : Nat} {a b : Tab} (h : OrdS w0 p a b W) : OrdS w0 p a b W.drew := ⟨h.gr.trans (Gr.drewN W 1), h.x0, h.x1, h.y0, h.y1⟩
theorem OrdS.alloc {w0 W : World} {p : Nat} {a b : Tab} (h : OrdS w0 p a b W) (o : Obj) : OrdS w0 p a b (W.alloc o) := by
  have hb := (Gr.alloc W o).below
  exact ⟨h.gr.trans (Gr.alloc W o), (hb.cell (World.block_lt_of_cell? W _ h.x0)).trans h.x0, (hb.cell (World.block_lt_of_cell? W _ h.x1)).trans h.x1, (hb.cell (World.block_lt_of_cell? W _ h.y0)).trans h.y0, (hb.cell (World.block_lt_of_cell? W _ h.y1)).trans h.y1⟩

end
end Go.Proofs.Ytekhkmhpeefenaa
