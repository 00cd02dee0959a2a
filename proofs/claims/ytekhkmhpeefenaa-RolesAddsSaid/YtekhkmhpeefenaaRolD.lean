/-
  Layer 8, the program, by contract: the order of members and of texts; lists that rise.
-/
import Derived.Test.YtekhkmhpeefenaaRolC
import Derived.Lib.Bytealg
namespace Go.Proofs.Ytekhkmhpeefenaa
set_option linter.unusedVariables false
open Go.RowKit Go.Sort Go.Shelf

def memOrd (a b : Mem) : Int := orI (cmpI a.role b.role) (cmpI a.of b.of)
theorem memOrd_lt {a b : Mem} : memOrd a b < 0 ↔ ltM a b = true := by
  unfold memOrd orI ltM
  by_cases h : cmpI a.role b.role = 0
  · have e := cmpI_zero.1 h
    rw [if_neg (by simp [h]), e, ltT_irr, eqT_refl]
    simpa using cmpI_lt
  · rw [if_pos h, cmpI_lt]
    have : eqT a.role b.role = false := eqT_no.2 fun e => h (cmpI_zero.2 e)
    rw [this]
    simp
theorem memOrd_zero {a b : Mem} : memOrd a b = 0 ↔ a = b := by
  unfold memOrd orI
  obtain ⟨r, o⟩ := a
  obtain ⟨r', o'⟩ := b
  simp only [Mem.mk.injEq]
  by_cases h : cmpI r r' = 0
  · rw [if_neg (by simp [h]), cmpI_zero]
    exact ⟨fun h2 => ⟨cmpI_zero.1 h, h2⟩, fun h2 => h2.2⟩
  · rw [if_pos h]
    exact ⟨fun h2 => absurd h2 h, fun h2 => cmpI_zero.2 h2.1⟩
theorem compare_is : ∀ (a b : List UInt8), Lib.compareBytes a b = if Op.bytesLess a b then -1 else if Op.bytesLess b a then 1 else 0
  | [], [] => rfl
  | [], _ :: _ => rfl
  | _ :: _, [] => rfl
  | x :: a, y :: b => by
    have ih := compare_is a b
    rw [Go.Proofs.bytesLess_eq, Go.Proofs.bytesLess_eq] at ih ⊢
    unfold Lib.compareBytes
    by_cases h1 : x < y
    · rw [if_pos h1, if_pos]
      simp [List.cons_lt_cons_iff, h1]
    · rw [if_neg h1]
      by_cases h2 : y < x
      · rw [if_pos h2, if_neg, if_pos]
        · simp [List.cons_lt_cons_iff, h2]
        · have h3 : ¬ x = y := fun e => by subst e; exact UInt8.lt_irrefl x h2
          simp [List.cons_lt_cons_iff, h1, h3]
      · obtain rfl : x = y := UInt8.le_antisymm (UInt8.not_lt.1 h2) (UInt8.not_lt.1 h1)
        rw [if_neg h2, ih]
        simp
theorem compare_cmp (a b : ByteArray) : Lib.compareBytes a.data.toList b.data.toList = cmpI a b := by
  rw [compare_is]
  unfold cmpI ltT
  rw [ByteArray.toList_eq, ByteArray.toList_eq]
theorem prog_strcmp0_any (a b : ByteArray) (w : World) : Calls Try.prog 66 #[.string a, .string b] w fun e w' => e = .returned (.int .i64 (cmpI a b)) ∧ w = w' := by
  have HC := Lib.hid (compare_cmp a b)
  go_enter Try.func66, Try.ntmps66
  go_wp2
  rw [run_callFunc_extern (fn := Try.f74) (by kernel_rfl) (by kernel_rfl) (by kernel_rfl) (by kernel_rfl) (e := Extern.BytealgCompare.compare) (by kernel_rfl), Lib.run_compareString, HC.out]
  simp only [Result.andThen]
  rw [Oper.upon_value]
  go_wp2
  go_ret
  exact ⟨rfl, rfl⟩
theorem prog_strcmp_any (a b : ByteArray) (w : World) : Calls Try.prog 42 #[.string a, .string b] w fun e w' => e = .returned (.int .i64 (cmpI a b)) ∧ w = w' := by
  go_enter Try.func42, Try.ntmps42
  go_wp2_with (go_at_call 66; refine (prog_strcmp0_any _ _ _).mono ?_; rintro e w' ⟨rfl, rfl⟩)
  go_ret
  exact ⟨rfl, rfl⟩
theorem prog_strord_any (a b : ByteArray) (w : World) : Calls Try.prog 42 #[.string a, .string b] w fun e w' => e = .returned (.int .i64 (cmpI a b)) ∧ Gr w w' :=
  (prog_strcmp_any a b w).mono fun e w' h => ⟨h.1, by rw [← h.2]; exact Gr.refl w⟩

/-- Two members in two boxes, and nothing but new blocks since. -/
structure OrdM (w0 : World) (p : Nat) (a b : Mem) (W : World) : Prop where
  gr : Gr w0 W
  x0 : W.cell? ⟨p, 0, none⟩ = some (.string a.role)
  x1 : W.cell? ⟨p, 1, none⟩ = some (.string a.of)
  y0 : W.cell? ⟨p + 1, 0, none⟩ = some (.string b.role)
  y1 : W.cell? ⟨p + 1, 1, none⟩ = some (.string b.of)
/-- .. as a region reads it. -/
def OrdMA (w0 : World) (p : Nat) (a b : Mem) (W : World) : Prop := OrdM w0 p a b W
theorem ordM_all {w0 W : World} {p : Nat} {a b : Mem} (h : OrdM w0 p a b W) : W.cell? ⟨p, 0, none⟩ = some (.string a.role) ∧ W.cell? ⟨p, 1, none⟩ = some (.string a.of) ∧ W.cell? ⟨p + 1, 0, none⟩ = some (.string b.role) ∧ W.cell? ⟨p + 1, 1, none⟩ = some (.string b.of) ∧ OrdM w0 p a b W := ⟨h.x0, h.x1, h.y0, h.y1, h⟩
theorem OrdM.drew {w0 W : World} {p : Nat} {a b : Mem} (h : OrdM w0 p a b W) : OrdM w0 p a b W.drew := ⟨h.gr.trans (Gr.drewN W 1), h.x0, h.x1, h.y0, h.y1⟩
theorem OrdM.alloc {w0 W : World} {p : Nat} {a b : Mem} (h : OrdM w0 p a b W) (o : Obj) : OrdM w0 p a b (W.alloc o) := by
  have hb := (Gr.alloc W o).below
  exact ⟨h.gr.trans (Gr.alloc W o), (hb.cell (World.block_lt_of_cell? W _ h.x0)).trans h.x0, (hb.cell (World.block_lt_of_cell? W _ h.x1)).trans h.x1, (hb.cell (World.block_lt_of_cell? W _ h.y0)).trans h.y0, (hb.cell (World.block_lt_of_cell? W _ h.y1)).trans h.y1⟩

set_option maxRecDepth 100000 in
set_option maxHeartbeats 4000000 in
theorem prog_memord_any (a b : Mem) (w : World) :
    Calls Try.prog 54 #[.agg #[.string a.role, .string a.of], .agg #[.string b.role, .string b.of]] w fun e w' => e = .returned (.int .i64 (memOrd a b)) ∧ Gr w w' := by
  have hg1 := Gr.alloc w (.cells #[.string a.role, .string a.of] 45)
  have hg2 := Gr.alloc (w.alloc (.cells #[.string a.role, .string a.of] 45)) (.cells #[.string b.role, .string b.of] 45)
  have hb1 : ∀ (j : Nat) u, ([.string a.role, .string a.of])[j]? = some u → ((w.alloc (.cells #[.string a.role, .string a.of] 45)).alloc (.cells #[.string b.role, .string b.of] 45)).cell? ⟨w.heap.size, j, none⟩ = some u := fun j u hj => by
    rw [hg2.below.cell (p := ⟨w.heap.size, j, none⟩) (by simp), cell_of_row _ _ _ _ _ _ (heap_alloc_new w _)]
    simpa using hj
  have hb2 : ∀ (j : Nat) u, ([.string b.role, .string b.of])[j]? = some u → ((w.alloc (.cells #[.string a.role, .string a.of] 45)).alloc (.cells #[.string b.role, .string b.of] 45)).cell? ⟨w.heap.size + 1, j, none⟩ = some u := fun j u hj => by
    have := heap_alloc_new (w.alloc (.cells #[.string a.role, .string a.of] 45)) (.cells #[.string b.role, .string b.of] 45)
    rw [World.size_alloc] at this
    rw [cell_of_row _ _ _ _ _ _ this]
    simpa using hj
  have x0 := hb1 0 _ rfl
  have x1 := hb1 1 _ rfl
  have y0 := hb2 0 _ rfl
  have y1 := hb2 1 _ rfl
  have hg := hg1.trans hg2
  have hsz : ((w.alloc (.cells #[.string a.role, .string a.of] 45)).alloc (.cells #[.string b.role, .string b.of] 45)).heap.size = w.heap.size + 1 + 1 := by simp
  have hor : ∀ (x y : Int) (W : World), Calls Try.prog 70 #[.slice (some ⟨W.heap.size, 0, none⟩) 2 2] (W.alloc (.cells #[.int .i64 x, .int .i64 y] 3)).drew fun e w' => e = .returned (.int .i64 (orI x y)) ∧ (W.alloc (.cells #[.int .i64 x, .int .i64 y] 3)).drew = w' := fun x y W =>
    prog_or_any _ x y _ (by show (W.alloc _).cell? _ = _; rw [cell_of_row _ _ _ _ _ _ (heap_alloc_new W _)]; rfl) (by show (W.alloc _).cell? _ = _; rw [cell_of_row _ _ _ _ _ _ (heap_alloc_new W _)]; rfl)
  have HOR := Lib.hid hor
  have hfin : ∀ (n : Nat) x y t, Gr w ((((w.alloc (.cells #[.string a.role, .string a.of] 45)).alloc (.cells #[.string b.role, .string b.of] 45)).drewN n).alloc (.cells #[.int .i64 x, .int .i64 y] t)) := fun n x y t => (hg.trans (Gr.drewN _ n)).trans (Gr.alloc _ _)
  have HFIN := Lib.hid hfin
  clear hb1 hb2 hg1 hg2 hor hfin
  go_enter Try.func54, Try.ntmps54
  go_wp2_with fail
  generalize hW : World.alloc (World.alloc w _) _ = w0 at *
  clear hW
  have hS : OrdM w0 w.heap.size a b w0 := ⟨Gr.refl _, x0, x1, y0, y1⟩
  have HOS := Lib.hid (fun (W : World) (h : OrdM w0 w.heap.size a b W) => hg.trans h.gr)
  clear hg hsz x0 x1 y0 y1 HFIN
  go_region_held3 (fun w' => w'.cell? ⟨w.heap.size, 0, none⟩ = some (.string a.role) ∧ w'.cell? ⟨w.heap.size, 1, none⟩ = some (.string a.of) ∧ w'.cell? ⟨w.heap.size + 1, 0, none⟩ = some (.string b.role) ∧ w'.cell? ⟨w.heap.size + 1, 1, none⟩ = some (.string b.of) ∧ OrdM w0 w.heap.size a b w')
    (first | assumption | (refine ordM_all ?_; first | assumption | exact OrdM.drew (by assumption) | exact OrdM.alloc (by assumption) _ | exact OrdM.drew (OrdM.alloc (by assumption) _)))
    (first | (go_at_call 71; refine (prog_cmp_any _ _ _).mono ?_; rintro e w' ⟨rfl, rfl⟩) | (go_at_call 70; refine (HOR.out _ _ _).mono ?_; rintro e w' ⟨rfl, rfl⟩))
  have HF := Lib.hid (HOS.out _ (OrdM.drew (OrdM.alloc hS (.cells #[.int .i64 (cmpI a.role b.role), .int .i64 (cmpI a.of b.of)] 3))))
  go_wp2_with fail
  go_ret
  exact ⟨rfl, HF.out⟩


set_option maxRecDepth 100000 in
set_option maxHeartbeats 4000000 in
theorem prog_memrise_any (B : Nat) (a : Option Addr) (n c : Nat) (l : List Mem) (w : World) (h : Lst w (· < B) (memQ w (· < B)) 2 (.slice a n c) l) (hB : B ≤ w.heap.size) :
    Calls Try.prog 60 #[.slice a n c, .func (.func 54) #[] #[]] w fun e w' => e = .returned (.bool (riseB (fun a b => memOrd a b) l)) ∧ Gr w w' := by
  have mixed := mixed_ok
  obtain ⟨hl, hc, hm⟩ := h.len
  unfold maxLen at hm
  have hyes : (∀ k, k < n - 1 → riseK (fun a b => memOrd a b) l k = true) → riseB (fun a b => memOrd a b) l = true := fun h => by unfold riseB; rw [hl]; exact all_range_iff.2 h
  have hno : ∀ k, k < n - 1 → riseK (fun a b => memOrd a b) l k = false → riseB (fun a b => memOrd a b) l = false := fun k hk h => by unfold riseB; rw [hl]; exact all_range_no hk h
  have HY := Lib.hid hyes; have HNO := Lib.hid hno
  have HL := Lib.hid hl
  have HH := Lib.hid h
  clear h hl hyes hno
  go_enter Try.func60, Try.ntmps60
  go_wp2_with fail
  go_loopw [5, 9] (fun _ i wr => ∃ k : Nat, k ≤ n - 1 ∧ i = .int .i64 k ∧ Hid (∀ j, j < k → riseK (fun a b => memOrd a b) l j = true) ∧ Gr w wr) (fun _ i _ => n - (intOf i).toNat)
  case atStart => exact ⟨0, Nat.zero_le _, rfl, Lib.hid (fun _ h => by omega), Gr.refl _⟩
  case round =>
    obtain ⟨k, hk, rfl, hn, hbw⟩ := hrel
    by_cases hlt : k + 1 < n
    · have lk : k < l.length := by rw [HL.out]; omega
      have lk1 : k + 1 < l.length := by rw [HL.out]; exact hlt
      obtain ⟨b, o, x, rfl, hbB, hx, hcl⟩ := HH.out.at lk
      obtain ⟨b', o', x', hbo, _, hx', hcl'⟩ := HH.out.at lk1
      cases hbo
      have hbl : b < w.heap.size := Nat.lt_of_lt_of_le hbB hB
      have hbr : b < wr.heap.size := Nat.lt_of_lt_of_le hbl hbw.below.size
      have hcg := fun j u (hj : x[j]? = some u) => cell_grown (w := wr) (a := ⟨b, o + k * 2 + j, none⟩) hbr ((hbw.below.cell (p := ⟨b, o + k * 2 + j, none⟩) hbl).trans (hcl j u hj))
      have hcg' := fun j u (hj : x'[j]? = some u) => cell_grown (w := wr) (a := ⟨b, o + (k + 1) * 2 + j, none⟩) hbr ((hbw.below.cell (p := ⟨b, o + (k + 1) * 2 + j, none⟩) hbl).trans (hcl' j u hj))
      have hld := load_grown (P := Try.prog) (w := wr) (b := b) (o := o + k * 2) (mem_stays.size hx) hbr fun j u hj => (hbw.below.cell (p := ⟨b, o + k * 2 + j, none⟩) hbl).trans (hcl j u hj)
      have hld' := load_grown (P := Try.prog) (w := wr) (b := b) (o := o + (k + 1) * 2) (mem_stays.size hx') hbr fun j u hj => (hbw.below.cell (p := ⟨b, o + (k + 1) * 2 + j, none⟩) hbl).trans (hcl' j u hj)
      have hat := riseK_get (ord := fun a b => memOrd a b) lk1
      have hno := HNO.out k (by omega)
      have hst := fun h => upto_succ hn.out h
      have k0 : (0 : Int) ≤ (k : Int) := by omega
      have k1 : (k : Int) < (n : Int) := by omega
      have k2 : ((k + 1 : Nat) : Int) < (n : Int) := by omega
      have k3 : (k : Int) < (n : Int) - 1 := by omega
      clear hcl hcl'
      generalize l[k] = y0 at *
      generalize l[k + 1] = y1 at *
      obtain rfl : x = [.string y0.role, .string y0.of] := hx
      obtain rfl : x' = [.string y1.role, .string y1.of] := hx'
      have c0 := hcg 0 _ rfl
      have d0 := hcg' 0 _ rfl
      simp only [Nat.add_zero] at c0 d0
      have c1 := hcg 1 _ rfl
      have d1 := hcg' 1 _ rfl
      clear hn hcg hcg'
      have HC := Lib.hid (prog_memord_any y0 y1)
      generalize hqq : (memOrd y0 y1) = q at *
      by_cases hq : q < 0
      · have HS := Lib.hid (hst (by rw [hat]; exact decide_eq_true hq))
        have hq0 : decide ((0 : Int) ≤ q) = false := by simp; omega
        clear hat hno hst
        go_wp2_with fail
        refine Go.wp_region_quiet_grown mixed (by kernel_rfl) ?_
        repeat (go_big_quiet_step (first | (go_at_call 54; exact gr_call HC.out)))
        refine Go.wpQuiet_nil ?_
        intro _ hw'
        obtain ⟨⟨nq, osq⟩, hw''⟩ := hw'
        subst hw''
        go_wp2_with fail
        go_roundw
        case rel => exact ⟨k + 1, by omega, by go_num, HS, hbw.trans (Gr.grown _ _ _)⟩
        case measure => simp [intOf]; omega
      · have HF := Lib.hid (hno (by rw [hat]; exact decide_eq_false hq))
        have hq0 : decide ((0 : Int) ≤ q) = true := by simp; omega
        clear hat hno hst
        go_wp2_with fail
        refine Go.wp_region_quiet_grown mixed (by kernel_rfl) ?_
        repeat (go_big_quiet_step (first | (go_at_call 54; exact gr_call HC.out)))
        refine Go.wpQuiet_nil ?_
        intro _ hw'
        obtain ⟨⟨nq, osq⟩, hw''⟩ := hw'
        subst hw''
        go_wp2_with fail
        go_ret
        exact ⟨by rw [HF.out]; rfl, hbw.trans (Gr.grown _ _ _)⟩
    · have HF := Lib.hid (HY.out fun j hj => hn.out j (by omega))
      have k3 : ¬ (k : Int) < (n : Int) - 1 := by omega
      clear hn
      go_wp2_with fail
      go_ret
      exact ⟨by rw [HF.out]; rfl, hbw⟩


set_option maxRecDepth 100000 in
set_option maxHeartbeats 4000000 in
theorem prog_strrise_any (B : Nat) (a : Option Addr) (n c : Nat) (l : List ByteArray) (w : World) (h : Lst w (· < B) (strQ w (· < B)) 1 (.slice a n c) l) (hB : B ≤ w.heap.size) :
    Calls Try.prog 59 #[.slice a n c, .func (.func 42) #[] #[]] w fun e w' => e = .returned (.bool (riseB (fun a b => cmpI a b) l)) ∧ Gr w w' := by
  have mixed := mixed_ok
  obtain ⟨hl, hc, hm⟩ := h.len
  unfold maxLen at hm
  have hyes : (∀ k, k < n - 1 → riseK (fun a b => cmpI a b) l k = true) → riseB (fun a b => cmpI a b) l = true := fun h => by unfold riseB; rw [hl]; exact all_range_iff.2 h
  have hno : ∀ k, k < n - 1 → riseK (fun a b => cmpI a b) l k = false → riseB (fun a b => cmpI a b) l = false := fun k hk h => by unfold riseB; rw [hl]; exact all_range_no hk h
  have HY := Lib.hid hyes; have HNO := Lib.hid hno
  have HL := Lib.hid hl
  have HH := Lib.hid h
  clear h hl hyes hno
  go_enter Try.func59, Try.ntmps59
  go_wp2_with fail
  go_loopw [5, 9] (fun _ i wr => ∃ k : Nat, k ≤ n - 1 ∧ i = .int .i64 k ∧ Hid (∀ j, j < k → riseK (fun a b => cmpI a b) l j = true) ∧ Gr w wr) (fun _ i _ => n - (intOf i).toNat)
  case atStart => exact ⟨0, Nat.zero_le _, rfl, Lib.hid (fun _ h => by omega), Gr.refl _⟩
  case round =>
    obtain ⟨k, hk, rfl, hn, hbw⟩ := hrel
    by_cases hlt : k + 1 < n
    · have lk : k < l.length := by rw [HL.out]; omega
      have lk1 : k + 1 < l.length := by rw [HL.out]; exact hlt
      obtain ⟨b, o, x, rfl, hbB, hx, hcl⟩ := HH.out.at lk
      obtain ⟨b', o', x', hbo, _, hx', hcl'⟩ := HH.out.at lk1
      cases hbo
      have hbl : b < w.heap.size := Nat.lt_of_lt_of_le hbB hB
      have hbr : b < wr.heap.size := Nat.lt_of_lt_of_le hbl hbw.below.size
      have hcg := fun j u (hj : x[j]? = some u) => cell_grown (w := wr) (a := ⟨b, o + k * 1 + j, none⟩) hbr ((hbw.below.cell (p := ⟨b, o + k * 1 + j, none⟩) hbl).trans (hcl j u hj))
      have hcg' := fun j u (hj : x'[j]? = some u) => cell_grown (w := wr) (a := ⟨b, o + (k + 1) * 1 + j, none⟩) hbr ((hbw.below.cell (p := ⟨b, o + (k + 1) * 1 + j, none⟩) hbl).trans (hcl' j u hj))
      have hat := riseK_get (ord := fun a b => cmpI a b) lk1
      have hno := HNO.out k (by omega)
      have hst := fun h => upto_succ hn.out h
      have k0 : (0 : Int) ≤ (k : Int) := by omega
      have k1 : (k : Int) < (n : Int) := by omega
      have k2 : ((k + 1 : Nat) : Int) < (n : Int) := by omega
      have k3 : (k : Int) < (n : Int) - 1 := by omega
      clear hcl hcl'
      generalize l[k] = y0 at *
      generalize l[k + 1] = y1 at *
      obtain rfl : x = [.string y0] := hx
      obtain rfl : x' = [.string y1] := hx'
      have c0 := hcg 0 _ rfl
      have d0 := hcg' 0 _ rfl
      simp only [Nat.add_zero, Nat.mul_one] at c0 d0
      clear hn hcg hcg'
      have HC := Lib.hid (prog_strord_any y0 y1)
      generalize hqq : (cmpI y0 y1) = q at *
      by_cases hq : q < 0
      · have HS := Lib.hid (hst (by rw [hat]; exact decide_eq_true hq))
        have hq0 : decide ((0 : Int) ≤ q) = false := by simp; omega
        clear hat hno hst
        go_wp2_with fail
        refine Go.wp_region_quiet_grown mixed (by kernel_rfl) ?_
        repeat (go_big_quiet_step (first | (go_at_call 42; exact gr_call HC.out)))
        refine Go.wpQuiet_nil ?_
        intro _ hw'
        obtain ⟨⟨nq, osq⟩, hw''⟩ := hw'
        subst hw''
        go_wp2_with fail
        go_roundw
        case rel => exact ⟨k + 1, by omega, by go_num, HS, hbw.trans (Gr.grown _ _ _)⟩
        case measure => simp [intOf]; omega
      · have HF := Lib.hid (hno (by rw [hat]; exact decide_eq_false hq))
        have hq0 : decide ((0 : Int) ≤ q) = true := by simp; omega
        clear hat hno hst
        go_wp2_with fail
        refine Go.wp_region_quiet_grown mixed (by kernel_rfl) ?_
        repeat (go_big_quiet_step (first | (go_at_call 42; exact gr_call HC.out)))
        refine Go.wpQuiet_nil ?_
        intro _ hw'
        obtain ⟨⟨nq, osq⟩, hw''⟩ := hw'
        subst hw''
        go_wp2_with fail
        go_ret
        exact ⟨by rw [HF.out]; rfl, hbw.trans (Gr.grown _ _ _)⟩
    · have HF := Lib.hid (HY.out fun j hj => hn.out j (by omega))
      have k3 : ¬ (k : Int) < (n : Int) - 1 := by omega
      clear hn
      go_wp2_with fail
      go_ret
      exact ⟨by rw [HF.out]; rfl, hbw⟩


end Go.Proofs.Ytekhkmhpeefenaa
