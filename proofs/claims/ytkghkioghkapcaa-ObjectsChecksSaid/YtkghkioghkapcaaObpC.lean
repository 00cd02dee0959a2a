/-
  Merged: ObpC, ObpC1.
-/
import Derived.Test.YtkghkioghkapcaaObpB
import Derived.Deep.RegionHeld3
namespace Go.Proofs.Ytkghkioghkapcaa
section
/-! Layer 7, the program, by contract: the orders, rise. (Made by wip/gen_obp2.py.) -/
open Go.RowKit Go.Sort Go.Shelf

def orI (x y : Int) : Int := if x ≠ 0 then x else y
def tabOrd (a b : Tab) : Int := orI (cmpI a.schema b.schema) (cmpI a.name b.name)
theorem cmpI_lt {a b : ByteArray} : cmpI a b < 0 ↔ ltT a b = true := by
  unfold cmpI
  cases h1 : ltT a b with
  | true => simp
  | false =>
    cases h2 : ltT b a <;> simp
theorem cmpI_zero {a b : ByteArray} : cmpI a b = 0 ↔ a = b := by
  unfold cmpI
  constructor
  · intro h
    rcases ltT_or (a := a) (b := b) with h1 | h1 | h1
    · rw [h1] at h; simp at h
    · exact h1
    · rw [h1, ltT_anti h1] at h; simp at h
  · rintro rfl
    rw [ltT_irr]; rfl
theorem tabOrd_lt {a b : Tab} : tabOrd a b < 0 ↔ ahead a b = true := by
  unfold tabOrd orI ahead
  by_cases h : cmpI a.schema b.schema = 0
  · have e := cmpI_zero.1 h
    rw [if_neg (by simp [h]), e, ltT_irr, eqT_refl]
    simpa using cmpI_lt
  · rw [if_pos h, cmpI_lt]
    have : eqT a.schema b.schema = false := eqT_no.2 fun e => h (cmpI_zero.2 e)
    rw [this]
    simp
theorem tabOrd_zero {a b : Tab} : tabOrd a b = 0 ↔ a.schema = b.schema ∧ a.name = b.name := by
  unfold tabOrd orI
  by_cases h : cmpI a.schema b.schema = 0
  · rw [if_neg (by simp [h]), cmpI_zero]
    exact ⟨fun h2 => ⟨cmpI_zero.1 h, h2⟩, fun h2 => h2.2⟩
  · rw [if_pos h]
    exact ⟨fun h2 => absurd h2 h, fun h2 => cmpI_zero.2 h2.1⟩
/-- Does a list rise, place by place? -/
def riseK {α : Type} (ord : α → α → Int) (l : List α) (k : Nat) : Bool := match l[k]?, l[k + 1]? with
  | some a, some b => decide (ord a b < 0)
  | _, _ => true
def riseB {α : Type} (ord : α → α → Int) (l : List α) : Bool := (List.range (l.length - 1)).all (riseK ord l)
theorem riseK_get {α : Type} {ord : α → α → Int} {l : List α} {k : Nat} (h : k + 1 < l.length) : riseK ord l k = decide (ord l[k] l[k + 1] < 0) := by
  unfold riseK
  rw [List.getElem?_eq_getElem (show k < l.length by omega), List.getElem?_eq_getElem h]

/-- A struct in an old block, loaded in a world of the region's. -/
theorem load_grown {P : Program} {w : World} {b o sz : Nat} {x : List Value} (hsz : x.length = sz) (hb : b < w.heap.size) (hc : ∀ j u, x[j]? = some u → w.cell? ⟨b, o + j, none⟩ = some u) (n : Nat) (os : Array Obj) :
    Sem.run P (loadCellsFrom ⟨b, o, none⟩ 0 sz #[]) (grow (w.drewN n) os) = .ok x.toArray (grow (w.drewN n) os) :=
  run_loadCellsFrom_list P _ _ x sz hsz fun j v hv => by rw [Addr.add_lit]; exact cell_grown (a := ⟨b, o + j, none⟩) hb (hc j v hv) n os

theorem prog_or_any (b : Nat) (x y : Int) (W : World) (h0 : W.cell? ⟨b, 0, none⟩ = some (.int .i64 x)) (h1 : W.cell? ⟨b, 1, none⟩ = some (.int .i64 y)) :
    Calls Try.prog 124 #[.slice (some ⟨b, 0, none⟩) 2 2] W fun e w' => e = .returned (.int .i64 (orI x y)) ∧ W = w' := by
  by_cases hx : x = 0
  · have HF := Lib.hid (show orI x y = y by unfold orI; rw [if_neg (by simp [hx])])
    subst hx
    by_cases hy : y = 0
    · subst hy
      go_enter Try.func124, Try.ntmps124
      go_wp2_with fail
      go_loop [8, 5] (fun i _ => ∃ k : Nat, k ≤ 2 ∧ i = .int .i64 k) (fun i _ => 2 - (intOf i).toNat)
      case atStart => exact ⟨0, by omega, rfl⟩
      case round =>
        obtain ⟨k, hk, rfl⟩ := hrel
        obtain rfl | rfl | rfl : k = 0 ∨ k = 1 ∨ k = 2 := by omega
        · go_wp2_with fail
          go_round
          case rel => exact ⟨1, by omega, rfl⟩
          case measure => simp [intOf]
        · go_wp2_with fail
          go_round
          case rel => exact ⟨2, by omega, rfl⟩
          case measure => simp [intOf]
        · go_wp2_with fail
          go_ret
          exact ⟨by rw [HF.out]; rfl, rfl⟩
    · have hy1 : (y == 0) = false := by simpa using hy
      have hy2 : (y != 0) = true := by simpa using hy
      go_enter Try.func124, Try.ntmps124
      go_wp2_with fail
      go_loop [8, 5] (fun i _ => ∃ k : Nat, k ≤ 1 ∧ i = .int .i64 k) (fun i _ => 2 - (intOf i).toNat)
      case atStart => exact ⟨0, by omega, rfl⟩
      case round =>
        obtain ⟨k, hk, rfl⟩ := hrel
        obtain rfl | rfl : k = 0 ∨ k = 1 := by omega
        · go_wp2_with fail
          go_round
          case rel => exact ⟨1, by omega, rfl⟩
          case measure => simp [intOf]
        · go_wp2_with fail
          go_ret
          exact ⟨by rw [HF.out]; rfl, rfl⟩
  · have HF := Lib.hid (show orI x y = x by unfold orI; rw [if_pos hx])
    have hy1 : (x == 0) = false := by simpa using hx
    have hy2 : (x != 0) = true := by simpa using hx
    go_enter Try.func124, Try.ntmps124
    go_wp2_with fail
    go_loop [8, 5] (fun i _ => i = .int .i64 0) (fun i _ => 2 - (intOf i).toNat)
    case atStart => rfl
    case round =>
      subst hrel
      go_wp2_with fail
      go_ret
      exact ⟨by rw [HF.out]; rfl, rfl⟩

set_option maxRecDepth 100000 in
set_option maxHeartbeats 4000000 in
theorem prog_schord_any (a b : Sch) (w : World) :
    Calls Try.prog 66 #[.agg #[.string a.name, .string a.owner], .agg #[.string b.name, .string b.owner]] w fun e w' => e = .returned (.int .i64 (cmpI a.name b.name)) ∧ Gr w w' := by
  have hg1 := Gr.alloc w (.cells #[.string a.name, .string a.owner] 75)
  have hg2 := Gr.alloc (w.alloc (.cells #[.string a.name, .string a.owner] 75)) (.cells #[.string b.name, .string b.owner] 75)
  have hb1 : ∀ (j : Nat) u, ([.string a.name, .string a.owner])[j]? = some u → ((w.alloc (.cells #[.string a.name, .string a.owner] 75)).alloc (.cells #[.string b.name, .string b.owner] 75)).cell? ⟨w.heap.size, j, none⟩ = some u := fun j u hj => by
    rw [hg2.below.cell (p := ⟨w.heap.size, j, none⟩) (by simp), cell_of_row _ _ _ _ _ _ (heap_alloc_new w _)]
    simpa using hj
  have hb2 : ∀ (j : Nat) u, ([.string b.name, .string b.owner])[j]? = some u → ((w.alloc (.cells #[.string a.name, .string a.owner] 75)).alloc (.cells #[.string b.name, .string b.owner] 75)).cell? ⟨w.heap.size + 1, j, none⟩ = some u := fun j u hj => by
    have := heap_alloc_new (w.alloc (.cells #[.string a.name, .string a.owner] 75)) (.cells #[.string b.name, .string b.owner] 75)
    rw [World.size_alloc] at this
    rw [cell_of_row _ _ _ _ _ _ this]
    simpa using hj
  have x0 := hb1 0 _ rfl
  have y0 := hb2 0 _ rfl
  have HG := Lib.hid (hg1.trans hg2)
  clear hb1 hb2 hg1 hg2
  go_enter Try.func66, Try.ntmps66
  go_wp2_with (go_at_call 121; refine (prog_cmp_any _ _ _).mono ?_; rintro e w' ⟨rfl, rfl⟩)
  go_ret
  exact ⟨rfl, HG.out⟩

set_option maxRecDepth 100000 in
set_option maxHeartbeats 4000000 in
theorem prog_schrise_any (B : Nat) (a : Option Addr) (n c : Nat) (l : List Sch) (w : World) (h : Lst w (· < B) (schQ w (· < B)) 2 (.slice a n c) l) (hB : B ≤ w.heap.size) :
    Calls Try.prog 110 #[.slice a n c, .func (.func 66) #[] #[]] w fun e w' => e = .returned (.bool (riseB (fun a b => cmpI a.name b.name) l)) ∧ Gr w w' := by
  have mixed := mixed_ok
  obtain ⟨hl, hc, hm⟩ := h.len
  unfold maxLen at hm
  have hyes : (∀ k, k < n - 1 → riseK (fun a b => cmpI a.name b.name) l k = true) → riseB (fun a b => cmpI a.name b.name) l = true := fun h => by unfold riseB; rw [hl]; exact all_range_iff.2 h
  have hno : ∀ k, k < n - 1 → riseK (fun a b => cmpI a.name b.name) l k = false → riseB (fun a b => cmpI a.name b.name) l = false := fun k hk h => by unfold riseB; rw [hl]; exact all_range_no hk h
  have HY := Lib.hid hyes; have HNO := Lib.hid hno
  have HL := Lib.hid hl
  have HH := Lib.hid h
  clear h hl hyes hno
  go_enter Try.func110, Try.ntmps110
  go_wp2_with fail
  go_loopw [5, 9] (fun _ i wr => ∃ k : Nat, k ≤ n - 1 ∧ i = .int .i64 k ∧ Hid (∀ j, j < k → riseK (fun a b => cmpI a.name b.name) l j = true) ∧ Gr w wr) (fun _ i _ => n - (intOf i).toNat)
  case atStart => exact ⟨0, Nat.zero_le _, rfl, Lib.hid (fun _ h => by omega), Gr.refl _⟩
  case round =>
    obtain ⟨k, hk, rfl, hn, hbw⟩ := hrel
    by_cases hlt : k + 1 < n
    · have lk : k < l.length := by rw [HL.out]; omega
      have lk1 : k + 1 < l.length := by rw [HL.out]; exact hlt
      obtain ⟨b, o, x, rfl, hbB, hx, hcl⟩ := HH.out.at lk
      obtain ⟨b', o', x', hbo, _, hx', hcl'⟩ := HH.out.at lk1
      cases hbo
      have hbl : b < w.heap.size := Nat.lt_of_lt_of_le hbB hB
      have hbr : b < wr.heap.size := Nat.lt_of_lt_of_le hbl hbw.below.size
      have hcg := fun j u (hj : x[j]? = some u) => cell_grown (w := wr) (a := ⟨b, o + k * 2 + j, none⟩) hbr ((hbw.below.cell (p := ⟨b, o + k * 2 + j, none⟩) hbl).trans (hcl j u hj))
      have hcg' := fun j u (hj : x'[j]? = some u) => cell_grown (w := wr) (a := ⟨b, o + (k + 1) * 2 + j, none⟩) hbr ((hbw.below.cell (p := ⟨b, o + (k + 1) * 2 + j, none⟩) hbl).trans (hcl' j u hj))
      have hld := load_grown (P := Try.prog) (w := wr) (b := b) (o := o + k * 2) (sch_stays.size hx) hbr fun j u hj => (hbw.below.cell (p := ⟨b, o + k * 2 + j, none⟩) hbl).trans (hcl j u hj)
      have hld' := load_grown (P := Try.prog) (w := wr) (b := b) (o := o + (k + 1) * 2) (sch_stays.size hx') hbr fun j u hj => (hbw.below.cell (p := ⟨b, o + (k + 1) * 2 + j, none⟩) hbl).trans (hcl' j u hj)
      have hat := riseK_get (ord := fun a b => cmpI a.name b.name) lk1
      have hno := HNO.out k (by omega)
      have hst := fun h => upto_succ hn.out h
      have k0 : (0 : Int) ≤ (k : Int) := by omega
      have k1 : (k : Int) < (n : Int) := by omega
      have k2 : ((k + 1 : Nat) : Int) < (n : Int) := by omega
      have k3 : (k : Int) < (n : Int) - 1 := by omega
      clear hcl hcl'
      generalize l[k] = y0 at *
      generalize l[k + 1] = y1 at *
      obtain rfl : x = [.string y0.name, .string y0.owner] := hx
      obtain rfl : x' = [.string y1.name, .string y1.owner] := hx'
      have c0 := hcg 0 _ rfl
      have d0 := hcg' 0 _ rfl
      simp only [Nat.add_zero] at c0 d0
      have c1 := hcg 1 _ rfl
      have d1 := hcg' 1 _ rfl
      clear hn hcg hcg'
      have HC := Lib.hid (prog_schord_any y0 y1)
      generalize hqq : (cmpI y0.name y1.name) = q at *
      by_cases hq : q < 0
      · have HS := Lib.hid (hst (by rw [hat]; exact decide_eq_true hq))
        have hq0 : decide ((0 : Int) ≤ q) = false := by simp; omega
        clear hat hno hst
        go_wp2_with fail
        refine Go.wp_region_quiet_grown mixed (by kernel_rfl) ?_
        repeat (go_big_quiet_step (first | (go_at_call 66; exact gr_call HC.out)))
        refine Go.wpQuiet_nil ?_
        intro _ hw'
        obtain ⟨⟨nq, osq⟩, hw''⟩ := hw'
        subst hw''
        go_wp2_with fail
        go_roundw
        case rel => exact ⟨k + 1, by omega, by go_num, HS, hbw.trans (Gr.grown _ _ _)⟩
        case measure => simp [intOf]; omega
      · have HF := Lib.hid (hno (by rw [hat]; exact decide_eq_false hq))
        have hq0 : decide ((0 : Int) ≤ q) = true := by simp; omega
        clear hat hno hst
        go_wp2_with fail
        refine Go.wp_region_quiet_grown mixed (by kernel_rfl) ?_
        repeat (go_big_quiet_step (first | (go_at_call 66; exact gr_call HC.out)))
        refine Go.wpQuiet_nil ?_
        intro _ hw'
        obtain ⟨⟨nq, osq⟩, hw''⟩ := hw'
        subst hw''
        go_wp2_with fail
        go_ret
        exact ⟨by rw [HF.out]; rfl, hbw.trans (Gr.grown _ _ _)⟩
    · have HF := Lib.hid (HY.out fun j hj => hn.out j (by omega))
      have k3 : ¬ (k : Int) < (n : Int) - 1 := by omega
      clear hn
      go_wp2_with fail
      go_ret
      exact ⟨by rw [HF.out]; rfl, hbw⟩

set_option maxRecDepth 100000 in
set_option maxHeartbeats 4000000 in
theorem prog_rulord_any (a b : Rul) (v1 v2 : Value) (w : World) :
    Calls Try.prog 101 #[.agg #[.string a.name, .int .i64 a.kind, v1, .int .i64 a.low, .int .i64 a.high, .string a.schema, .string a.table, .string a.key], .agg #[.string b.name, .int .i64 b.kind, v2, .int .i64 b.low, .int .i64 b.high, .string b.schema, .string b.table, .string b.key]] w fun e w' => e = .returned (.int .i64 (cmpI a.name b.name)) ∧ Gr w w' := by
  have hg1 := Gr.alloc w (.cells #[.string a.name, .int .i64 a.kind, v1, .int .i64 a.low, .int .i64 a.high, .string a.schema, .string a.table, .string a.key] 56)
  have hg2 := Gr.alloc (w.alloc (.cells #[.string a.name, .int .i64 a.kind, v1, .int .i64 a.low, .int .i64 a.high, .string a.schema, .string a.table, .string a.key] 56)) (.cells #[.string b.name, .int .i64 b.kind, v2, .int .i64 b.low, .int .i64 b.high, .string b.schema, .string b.table, .string b.key] 56)
  have hb1 : ∀ (j : Nat) u, ([.string a.name, .int .i64 a.kind, v1, .int .i64 a.low, .int .i64 a.high, .string a.schema, .string a.table, .string a.key])[j]? = some u → ((w.alloc (.cells #[.string a.name, .int .i64 a.kind, v1, .int .i64 a.low, .int .i64 a.high, .string a.schema, .string a.table, .string a.key] 56)).alloc (.cells #[.string b.name, .int .i64 b.kind, v2, .int .i64 b.low, .int .i64 b.high, .string b.schema, .string b.table, .string b.key] 56)).cell? ⟨w.heap.size, j, none⟩ = some u := fun j u hj => by
    rw [hg2.below.cell (p := ⟨w.heap.size, j, none⟩) (by simp), cell_of_row _ _ _ _ _ _ (heap_alloc_new w _)]
    simpa using hj
  have hb2 : ∀ (j : Nat) u, ([.string b.name, .int .i64 b.kind, v2, .int .i64 b.low, .int .i64 b.high, .string b.schema, .string b.table, .string b.key])[j]? = some u → ((w.alloc (.cells #[.string a.name, .int .i64 a.kind, v1, .int .i64 a.low, .int .i64 a.high, .string a.schema, .string a.table, .string a.key] 56)).alloc (.cells #[.string b.name, .int .i64 b.kind, v2, .int .i64 b.low, .int .i64 b.high, .string b.schema, .string b.table, .string b.key] 56)).cell? ⟨w.heap.size + 1, j, none⟩ = some u := fun j u hj => by
    have := heap_alloc_new (w.alloc (.cells #[.string a.name, .int .i64 a.kind, v1, .int .i64 a.low, .int .i64 a.high, .string a.schema, .string a.table, .string a.key] 56)) (.cells #[.string b.name, .int .i64 b.kind, v2, .int .i64 b.low, .int .i64 b.high, .string b.schema, .string b.table, .string b.key] 56)
    rw [World.size_alloc] at this
    rw [cell_of_row _ _ _ _ _ _ this]
    simpa using hj
  have x0 := hb1 0 _ rfl
  have y0 := hb2 0 _ rfl
  have HG := Lib.hid (hg1.trans hg2)
  clear hb1 hb2 hg1 hg2
  go_enter Try.func101, Try.ntmps101
  go_wp2_with (go_at_call 121; refine (prog_cmp_any _ _ _).mono ?_; rintro e w' ⟨rfl, rfl⟩)
  go_ret
  exact ⟨rfl, HG.out⟩

set_option maxRecDepth 100000 in
set_option maxHeartbeats 4000000 in
theorem prog_rulrise_any (B : Nat) (a : Option Addr) (n c : Nat) (l : List Rul) (w : World) (h : Lst w (· < B) (rulP w (· < B)) 8 (.slice a n c) l) (hB : B ≤ w.heap.size) :
    Calls Try.prog 137 #[.slice a n c, .func (.func 101) #[] #[]] w fun e w' => e = .returned (.bool (riseB (fun a b => cmpI a.name b.name) l)) ∧ Gr w w' := by
  have mixed := mixed_ok
  obtain ⟨hl, hc, hm⟩ := h.len
  unfold maxLen at hm
  have hyes : (∀ k, k < n - 1 → riseK (fun a b => cmpI a.name b.name) l k = true) → riseB (fun a b => cmpI a.name b.name) l = true := fun h => by unfold riseB; rw [hl]; exact all_range_iff.2 h
  have hno : ∀ k, k < n - 1 → riseK (fun a b => cmpI a.name b.name) l k = false → riseB (fun a b => cmpI a.name b.name) l = false := fun k hk h => by unfold riseB; rw [hl]; exact all_range_no hk h
  have HY := Lib.hid hyes; have HNO := Lib.hid hno
  have HL := Lib.hid hl
  have HH := Lib.hid h
  clear h hl hyes hno
  go_enter Try.func137, Try.ntmps137
  go_wp2_with fail
  go_loopw [5, 9] (fun _ i wr => ∃ k : Nat, k ≤ n - 1 ∧ i = .int .i64 k ∧ Hid (∀ j, j < k → riseK (fun a b => cmpI a.name b.name) l j = true) ∧ Gr w wr) (fun _ i _ => n - (intOf i).toNat)
  case atStart => exact ⟨0, Nat.zero_le _, rfl, Lib.hid (fun _ h => by omega), Gr.refl _⟩
  case round =>
    obtain ⟨k, hk, rfl, hn, hbw⟩ := hrel
    by_cases hlt : k + 1 < n
    · have lk : k < l.length := by rw [HL.out]; omega
      have lk1 : k + 1 < l.length := by rw [HL.out]; exact hlt
      obtain ⟨b, o, x, rfl, hbB, hx, hcl⟩ := HH.out.at lk
      obtain ⟨b', o', x', hbo, _, hx', hcl'⟩ := HH.out.at lk1
      cases hbo
      have hbl : b < w.heap.size := Nat.lt_of_lt_of_le hbB hB
      have hbr : b < wr.heap.size := Nat.lt_of_lt_of_le hbl hbw.below.size
      have hcg := fun j u (hj : x[j]? = some u) => cell_grown (w := wr) (a := ⟨b, o + k * 8 + j, none⟩) hbr ((hbw.below.cell (p := ⟨b, o + k * 8 + j, none⟩) hbl).trans (hcl j u hj))
      have hcg' := fun j u (hj : x'[j]? = some u) => cell_grown (w := wr) (a := ⟨b, o + (k + 1) * 8 + j, none⟩) hbr ((hbw.below.cell (p := ⟨b, o + (k + 1) * 8 + j, none⟩) hbl).trans (hcl' j u hj))
      have hld := load_grown (P := Try.prog) (w := wr) (b := b) (o := o + k * 8) (rul_stays.size hx) hbr fun j u hj => (hbw.below.cell (p := ⟨b, o + k * 8 + j, none⟩) hbl).trans (hcl j u hj)
      have hld' := load_grown (P := Try.prog) (w := wr) (b := b) (o := o + (k + 1) * 8) (rul_stays.size hx') hbr fun j u hj => (hbw.below.cell (p := ⟨b, o + (k + 1) * 8 + j, none⟩) hbl).trans (hcl' j u hj)
      have hat := riseK_get (ord := fun a b => cmpI a.name b.name) lk1
      have hno := HNO.out k (by omega)
      have hst := fun h => upto_succ hn.out h
      have k0 : (0 : Int) ≤ (k : Int) := by omega
      have k1 : (k : Int) < (n : Int) := by omega
      have k2 : ((k + 1 : Nat) : Int) < (n : Int) := by omega
      have k3 : (k : Int) < (n : Int) - 1 := by omega
      clear hcl hcl'
      generalize l[k] = y0 at *
      generalize l[k + 1] = y1 at *
      obtain ⟨v0, rfl, _⟩ := hx
      obtain ⟨v1, rfl, _⟩ := hx'
      have c0 := hcg 0 _ rfl
      have d0 := hcg' 0 _ rfl
      simp only [Nat.add_zero] at c0 d0
      have c1 := hcg 1 _ rfl
      have d1 := hcg' 1 _ rfl
      have c2 := hcg 2 _ rfl
      have d2 := hcg' 2 _ rfl
      have c3 := hcg 3 _ rfl
      have d3 := hcg' 3 _ rfl
      have c4 := hcg 4 _ rfl
      have d4 := hcg' 4 _ rfl
      have c5 := hcg 5 _ rfl
      have d5 := hcg' 5 _ rfl
      have c6 := hcg 6 _ rfl
      have d6 := hcg' 6 _ rfl
      have c7 := hcg 7 _ rfl
      have d7 := hcg' 7 _ rfl
      clear hn hcg hcg'
      have HC := Lib.hid (prog_rulord_any y0 y1 v0 v1)
      generalize hqq : (cmpI y0.name y1.name) = q at *
      by_cases hq : q < 0
      · have HS := Lib.hid (hst (by rw [hat]; exact decide_eq_true hq))
        have hq0 : decide ((0 : Int) ≤ q) = false := by simp; omega
        clear hat hno hst
        go_wp2_with fail
        refine Go.wp_region_quiet_grown mixed (by kernel_rfl) ?_
        repeat (go_big_quiet_step (first | (go_at_call 101; exact gr_call HC.out)))
        refine Go.wpQuiet_nil ?_
        intro _ hw'
        obtain ⟨⟨nq, osq⟩, hw''⟩ := hw'
        subst hw''
        go_wp2_with fail
        go_roundw
        case rel => exact ⟨k + 1, by omega, by go_num, HS, hbw.trans (Gr.grown _ _ _)⟩
        case measure => simp [intOf]; omega
      · have HF := Lib.hid (hno (by rw [hat]; exact decide_eq_false hq))
        have hq0 : decide ((0 : Int) ≤ q) = true := by simp; omega
        clear hat hno hst
        go_wp2_with fail
        refine Go.wp_region_quiet_grown mixed (by kernel_rfl) ?_
        repeat (go_big_quiet_step (first | (go_at_call 101; exact gr_call HC.out)))
        refine Go.wpQuiet_nil ?_
        intro _ hw'
        obtain ⟨⟨nq, osq⟩, hw''⟩ := hw'
        subst hw''
        go_wp2_with fail
        go_ret
        exact ⟨by rw [HF.out]; rfl, hbw.trans (Gr.grown _ _ _)⟩
    · have HF := Lib.hid (HY.out fun j hj => hn.out j (by omega))
      have k3 : ¬ (k : Int) < (n : Int) - 1 := by omega
      clear hn
      go_wp2_with fail
      go_ret
      exact ⟨by rw [HF.out]; rfl, hbw⟩
end

section
/-! Layer 7, the program, by contract: the tables' order, rise. (Made by wip/gen_obp2.py.) -/
open Go.RowKit Go.Sort Go.Shelf

/-- Two tables in two boxes, and nothing but new blocks since. -/
structure OrdS (w0 : World) (p : Nat) (a b : Tab) (W : World) : Prop where
  gr : Gr w0 W
  x0 : W.cell? ⟨p, 0, none⟩ = some (.string a.schema)
  x1 : W.cell? ⟨p, 1, none⟩ = some (.string a.name)
  y0 : W.cell? ⟨p + 1, 0, none⟩ = some (.string b.schema)
  y1 : W.cell? ⟨p + 1, 1, none⟩ = some (.string b.name)
/-- .. as a region reads it. -/
def OrdA (w0 : World) (p : Nat) (a b : Tab) (W : World) : Prop := OrdS w0 p a b W
theorem ordS_all {w0 W : World} {p : Nat} {a b : Tab} (h : OrdS w0 p a b W) : W.cell? ⟨p, 0, none⟩ = some (.string a.schema) ∧ W.cell? ⟨p, 1, none⟩ = some (.string a.name) ∧ W.cell? ⟨p + 1, 0, none⟩ = some (.string b.schema) ∧ W.cell? ⟨p + 1, 1, none⟩ = some (.string b.name) ∧ OrdS w0 p a b W := ⟨h.x0, h.x1, h.y0, h.y1, h⟩
theorem OrdS.drew {w0 W : World} {p : Nat} {a b : Tab} (h : OrdS w0 p a b W) : OrdS w0 p a b W.drew := ⟨h.gr.trans (Gr.drewN W 1), h.x0, h.x1, h.y0, h.y1⟩
theorem OrdS.alloc {w0 W : World} {p : Nat} {a b : Tab} (h : OrdS w0 p a b W) (o : Obj) : OrdS w0 p a b (W.alloc o) := by
  have hb := (Gr.alloc W o).below
  exact ⟨h.gr.trans (Gr.alloc W o), (hb.cell (World.block_lt_of_cell? W _ h.x0)).trans h.x0, (hb.cell (World.block_lt_of_cell? W _ h.x1)).trans h.x1, (hb.cell (World.block_lt_of_cell? W _ h.y0)).trans h.y0, (hb.cell (World.block_lt_of_cell? W _ h.y1)).trans h.y1⟩

set_option maxRecDepth 100000 in
set_option maxHeartbeats 4000000 in
theorem prog_tabord_any (a b : Tab) (v1 v2 v3 v4 : Value) (w : World) :
    Calls Try.prog 75 #[.agg #[.string a.schema, .string a.name, .string a.owner, v1, v2], .agg #[.string b.schema, .string b.name, .string b.owner, v3, v4]] w fun e w' => e = .returned (.int .i64 (tabOrd a b)) ∧ Gr w w' := by
  have hg1 := Gr.alloc w (.cells #[.string a.schema, .string a.name, .string a.owner, v1, v2] 35)
  have hg2 := Gr.alloc (w.alloc (.cells #[.string a.schema, .string a.name, .string a.owner, v1, v2] 35)) (.cells #[.string b.schema, .string b.name, .string b.owner, v3, v4] 35)
  have hb1 : ∀ (j : Nat) u, ([.string a.schema, .string a.name, .string a.owner, v1, v2])[j]? = some u → ((w.alloc (.cells #[.string a.schema, .string a.name, .string a.owner, v1, v2] 35)).alloc (.cells #[.string b.schema, .string b.name, .string b.owner, v3, v4] 35)).cell? ⟨w.heap.size, j, none⟩ = some u := fun j u hj => by
    rw [hg2.below.cell (p := ⟨w.heap.size, j, none⟩) (by simp), cell_of_row _ _ _ _ _ _ (heap_alloc_new w _)]
    simpa using hj
  have hb2 : ∀ (j : Nat) u, ([.string b.schema, .string b.name, .string b.owner, v3, v4])[j]? = some u → ((w.alloc (.cells #[.string a.schema, .string a.name, .string a.owner, v1, v2] 35)).alloc (.cells #[.string b.schema, .string b.name, .string b.owner, v3, v4] 35)).cell? ⟨w.heap.size + 1, j, none⟩ = some u := fun j u hj => by
    have := heap_alloc_new (w.alloc (.cells #[.string a.schema, .string a.name, .string a.owner, v1, v2] 35)) (.cells #[.string b.schema, .string b.name, .string b.owner, v3, v4] 35)
    rw [World.size_alloc] at this
    rw [cell_of_row _ _ _ _ _ _ this]
    simpa using hj
  have x0 := hb1 0 _ rfl
  have x1 := hb1 1 _ rfl
  have y0 := hb2 0 _ rfl
  have y1 := hb2 1 _ rfl
  have hg := hg1.trans hg2
  have hsz : ((w.alloc (.cells #[.string a.schema, .string a.name, .string a.owner, v1, v2] 35)).alloc (.cells #[.string b.schema, .string b.name, .string b.owner, v3, v4] 35)).heap.size = w.heap.size + 1 + 1 := by simp
  have hor : ∀ (x y : Int) (W : World), Calls Try.prog 124 #[.slice (some ⟨W.heap.size, 0, none⟩) 2 2] (W.alloc (.cells #[.int .i64 x, .int .i64 y] 3)).drew fun e w' => e = .returned (.int .i64 (orI x y)) ∧ (W.alloc (.cells #[.int .i64 x, .int .i64 y] 3)).drew = w' := fun x y W =>
    prog_or_any _ x y _ (by show (W.alloc _).cell? _ = _; rw [cell_of_row _ _ _ _ _ _ (heap_alloc_new W _)]; rfl) (by show (W.alloc _).cell? _ = _; rw [cell_of_row _ _ _ _ _ _ (heap_alloc_new W _)]; rfl)
  have HOR := Lib.hid hor
  have hfin : ∀ (n : Nat) x y t, Gr w ((((w.alloc (.cells #[.string a.schema, .string a.name, .string a.owner, v1, v2] 35)).alloc (.cells #[.string b.schema, .string b.name, .string b.owner, v3, v4] 35)).drewN n).alloc (.cells #[.int .i64 x, .int .i64 y] t)) := fun n x y t => (hg.trans (Gr.drewN _ n)).trans (Gr.alloc _ _)
  have HFIN := Lib.hid hfin
  clear hb1 hb2 hg1 hg2 hor hfin
  go_enter Try.func75, Try.ntmps75
  go_wp2_with fail
  generalize hW : World.alloc (World.alloc w _) _ = w0 at *
  clear hW
  have hS : OrdS w0 w.heap.size a b w0 := ⟨Gr.refl _, x0, x1, y0, y1⟩
  have HOS := Lib.hid (fun (W : World) (h : OrdS w0 w.heap.size a b W) => hg.trans h.gr)
  clear hg hsz x0 x1 y0 y1 HFIN
  go_region_held3 (fun w' => w'.cell? ⟨w.heap.size, 0, none⟩ = some (.string a.schema) ∧ w'.cell? ⟨w.heap.size, 1, none⟩ = some (.string a.name) ∧ w'.cell? ⟨w.heap.size + 1, 0, none⟩ = some (.string b.schema) ∧ w'.cell? ⟨w.heap.size + 1, 1, none⟩ = some (.string b.name) ∧ OrdS w0 w.heap.size a b w')
    (first | assumption | (refine ordS_all ?_; first | assumption | exact OrdS.drew (by assumption) | exact OrdS.alloc (by assumption) _ | exact OrdS.drew (OrdS.alloc (by assumption) _)))
    (first | (go_at_call 121; refine (prog_cmp_any _ _ _).mono ?_; rintro e w' ⟨rfl, rfl⟩) | (go_at_call 124; refine (HOR.out _ _ _).mono ?_; rintro e w' ⟨rfl, rfl⟩))
  have HF := Lib.hid (HOS.out _ (OrdS.drew (OrdS.alloc hS (.cells #[.int .i64 (cmpI a.schema b.schema), .int .i64 (cmpI a.name b.name)] 3))))
  go_wp2_with fail
  go_ret
  exact ⟨rfl, HF.out⟩

set_option maxRecDepth 100000 in
set_option maxHeartbeats 4000000 in
theorem prog_tabrise_any (B : Nat) (a : Option Addr) (n c : Nat) (l : List Tab) (w : World) (h : Lst w (· < B) (tabP w (· < B)) 5 (.slice a n c) l) (hB : B ≤ w.heap.size) :
    Calls Try.prog 112 #[.slice a n c, .func (.func 75) #[] #[]] w fun e w' => e = .returned (.bool (riseB (fun a b => tabOrd a b) l)) ∧ Gr w w' := by
  have mixed := mixed_ok
  obtain ⟨hl, hc, hm⟩ := h.len
  unfold maxLen at hm
  have hyes : (∀ k, k < n - 1 → riseK (fun a b => tabOrd a b) l k = true) → riseB (fun a b => tabOrd a b) l = true := fun h => by unfold riseB; rw [hl]; exact all_range_iff.2 h
  have hno : ∀ k, k < n - 1 → riseK (fun a b => tabOrd a b) l k = false → riseB (fun a b => tabOrd a b) l = false := fun k hk h => by unfold riseB; rw [hl]; exact all_range_no hk h
  have HY := Lib.hid hyes; have HNO := Lib.hid hno
  have HL := Lib.hid hl
  have HH := Lib.hid h
  clear h hl hyes hno
  go_enter Try.func112, Try.ntmps112
  go_wp2_with fail
  go_loopw [5, 9] (fun _ i wr => ∃ k : Nat, k ≤ n - 1 ∧ i = .int .i64 k ∧ Hid (∀ j, j < k → riseK (fun a b => tabOrd a b) l j = true) ∧ Gr w wr) (fun _ i _ => n - (intOf i).toNat)
  case atStart => exact ⟨0, Nat.zero_le _, rfl, Lib.hid (fun _ h => by omega), Gr.refl _⟩
  case round =>
    obtain ⟨k, hk, rfl, hn, hbw⟩ := hrel
    by_cases hlt : k + 1 < n
    · have lk : k < l.length := by rw [HL.out]; omega
      have lk1 : k + 1 < l.length := by rw [HL.out]; exact hlt
      obtain ⟨b, o, x, rfl, hbB, hx, hcl⟩ := HH.out.at lk
      obtain ⟨b', o', x', hbo, _, hx', hcl'⟩ := HH.out.at lk1
      cases hbo
      have hbl : b < w.heap.size := Nat.lt_of_lt_of_le hbB hB
      have hbr : b < wr.heap.size := Nat.lt_of_lt_of_le hbl hbw.below.size
      have hcg := fun j u (hj : x[j]? = some u) => cell_grown (w := wr) (a := ⟨b, o + k * 5 + j, none⟩) hbr ((hbw.below.cell (p := ⟨b, o + k * 5 + j, none⟩) hbl).trans (hcl j u hj))
      have hcg' := fun j u (hj : x'[j]? = some u) => cell_grown (w := wr) (a := ⟨b, o + (k + 1) * 5 + j, none⟩) hbr ((hbw.below.cell (p := ⟨b, o + (k + 1) * 5 + j, none⟩) hbl).trans (hcl' j u hj))
      have hld := load_grown (P := Try.prog) (w := wr) (b := b) (o := o + k * 5) (tab_stays.size hx) hbr fun j u hj => (hbw.below.cell (p := ⟨b, o + k * 5 + j, none⟩) hbl).trans (hcl j u hj)
      have hld' := load_grown (P := Try.prog) (w := wr) (b := b) (o := o + (k + 1) * 5) (tab_stays.size hx') hbr fun j u hj => (hbw.below.cell (p := ⟨b, o + (k + 1) * 5 + j, none⟩) hbl).trans (hcl' j u hj)
      have hat := riseK_get (ord := fun a b => tabOrd a b) lk1
      have hno := HNO.out k (by omega)
      have hst := fun h => upto_succ hn.out h
      have k0 : (0 : Int) ≤ (k : Int) := by omega
      have k1 : (k : Int) < (n : Int) := by omega
      have k2 : ((k + 1 : Nat) : Int) < (n : Int) := by omega
      have k3 : (k : Int) < (n : Int) - 1 := by omega
      clear hcl hcl'
      generalize l[k] = y0 at *
      generalize l[k + 1] = y1 at *
      obtain ⟨vc0, vr0, rfl, _, _⟩ := hx
      obtain ⟨vc1, vr1, rfl, _, _⟩ := hx'
      have c0 := hcg 0 _ rfl
      have d0 := hcg' 0 _ rfl
      simp only [Nat.add_zero] at c0 d0
      have c1 := hcg 1 _ rfl
      have d1 := hcg' 1 _ rfl
      have c2 := hcg 2 _ rfl
      have d2 := hcg' 2 _ rfl
      have c3 := hcg 3 _ rfl
      have d3 := hcg' 3 _ rfl
      have c4 := hcg 4 _ rfl
      have d4 := hcg' 4 _ rfl
      clear hn hcg hcg'
      have HC := Lib.hid (prog_tabord_any y0 y1 vc0 vr0 vc1 vr1)
      generalize hqq : (tabOrd y0 y1) = q at *
      by_cases hq : q < 0
      · have HS := Lib.hid (hst (by rw [hat]; exact decide_eq_true hq))
        have hq0 : decide ((0 : Int) ≤ q) = false := by simp; omega
        clear hat hno hst
        go_wp2_with fail
        refine Go.wp_region_quiet_grown mixed (by kernel_rfl) ?_
        repeat (go_big_quiet_step (first | (go_at_call 75; exact gr_call HC.out)))
        refine Go.wpQuiet_nil ?_
        intro _ hw'
        obtain ⟨⟨nq, osq⟩, hw''⟩ := hw'
        subst hw''
        go_wp2_with fail
        go_roundw
        case rel => exact ⟨k + 1, by omega, by go_num, HS, hbw.trans (Gr.grown _ _ _)⟩
        case measure => simp [intOf]; omega
      · have HF := Lib.hid (hno (by rw [hat]; exact decide_eq_false hq))
        have hq0 : decide ((0 : Int) ≤ q) = true := by simp; omega
        clear hat hno hst
        go_wp2_with fail
        refine Go.wp_region_quiet_grown mixed (by kernel_rfl) ?_
        repeat (go_big_quiet_step (first | (go_at_call 75; exact gr_call HC.out)))
        refine Go.wpQuiet_nil ?_
        intro _ hw'
        obtain ⟨⟨nq, osq⟩, hw''⟩ := hw'
        subst hw''
        go_wp2_with fail
        go_ret
        exact ⟨by rw [HF.out]; rfl, hbw.trans (Gr.grown _ _ _)⟩
    · have HF := Lib.hid (HY.out fun j hj => hn.out j (by omega))
      have k3 : ¬ (k : Int) < (n : Int) - 1 := by omega
      clear hn
      go_wp2_with fail
      go_ret
      exact ⟨by rw [HF.out]; rfl, hbw⟩
end
end Go.Proofs.Ytkghkioghkapcaa
