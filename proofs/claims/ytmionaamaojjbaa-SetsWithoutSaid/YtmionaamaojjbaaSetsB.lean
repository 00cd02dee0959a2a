/-
  Sets: the least of two rows' next numbers; two rows merged: by contract.
-/
import Derived.Test.YtmionaamaojjbaaSetsA
import Derived.Maps.AppendAt
namespace Go.Proofs.Ytmionaamaojjbaa
open Go.RowKit

/-- Marks as cells. -/
def cu (ws : List Nat) : List Value := ws.map fun c : Nat => .int .u64 (c : Int)
@[simp] theorem length_cu (ws : List Nat) : (cu ws).length = ws.length := by simp [cu]
theorem cu_get (ws : List Nat) (k : Nat) (h : k < (cu ws).length) : (cu ws)[k] = .int .u64 ((ws[k]'(by simpa using h) : Nat) : Int) := by simp [cu]
theorem mark_take_succ {xs : List Nat} {k v : Nat} (h : k < xs.length) (hn : v ∉ xs.take k) (hv : ¬ xs[k] = v) : v ∉ xs.take (k + 1) := by
  rw [List.take_succ_eq_append_getElem h]
  intro hm
  rcases List.mem_append.1 hm with hm | hm
  · exact hn hm
  · exact hv (List.mem_singleton.1 hm).symm
theorem mark_at {xs : List Nat} {k v : Nat} (h : k < xs.length) (hv : xs[k] = v) : decide (v ∈ xs) = true := by
  subst hv; simp
theorem mark_not {xs : List Nat} {k v : Nat} (hn : v ∉ xs.take k) (h : xs.length ≤ k) : decide (v ∈ xs) = false := by
  rw [List.take_of_length_le h] at hn; simpa using hn

set_option maxHeartbeats 1000000 in
theorem index_marks (a : Option Addr) (n c B : Nat) (xs : List Nat) (v : Nat) (w : World) (hl : xs.length = n) (hr : Rd w B a (cu xs)) (hm : n ≤ maxLen) :
    Calls Try.prog 38 #[.slice a n c, .int .u64 (v : Int)] w (Found (decide (v ∈ xs)) w) := by
  unfold maxLen at hm
  have HL := Lib.hid hl; clear hl
  go_enter Try.func38, Try.ntmps38
  go_wp2
  go_loop [8] (fun i => ∃ k : Nat, k ≤ n ∧ i = .int .i64 k ∧ Hid (v ∉ xs.take k)) (fun i => n - (intOf i).toNat)
  case atStart => exact ⟨0, Nat.zero_le _, rfl, Lib.hid (by simp)⟩
  case round =>
    obtain ⟨k, hk, rfl, hs⟩ := hrel
    by_cases hlt : k < n
    · obtain ⟨b, o, rfl, _, hc⟩ := hr.pos (by rw [length_cu, HL.out]; omega)
      have hck := hc k (by rw [length_cu, HL.out]; omega)
      rw [cu_get] at hck
      clear hc
      have l1 : k < xs.length := by rw [HL.out]; exact hlt
      have hst := fun h => mark_take_succ l1 hs.out h
      have hat := fun h => mark_at (v := v) l1 h
      have k0 : (0 : Int) ≤ (k : Int) := by omega
      have k1 : (k : Int) < (n : Int) := by omega
      generalize xs[k] = x at *
      by_cases hxy : x = v
      · subst hxy
        have HAT := Lib.hid (hat rfl)
        clear hst hat
        go_wp2
        go_ret
        exact ⟨k, rfl, by rw [HAT.out]; simp, rfl⟩
      · have HST := Lib.hid (hst hxy)
        clear hst hat
        have hb : (x == v) = false := by simpa using hxy
        have hb' : (v == x) = false := by simpa using fun h => hxy h.symm
        have hb2 : ((v : Int) == (x : Int)) = false := by simp; omega
        go_wp2
        go_round
        case rel => exact ⟨k + 1, by omega, by go_num, HST⟩
        case measure => simp [intOf]; omega
    · have hd := Lib.hid (mark_not hs.out (by rw [HL.out]; omega))
      go_wp2
      go_ret
      exact ⟨-1, rfl, by rw [hd.out]; rfl, rfl⟩

theorem contains_marks (a : Option Addr) (n c B : Nat) (xs : List Nat) (v : Nat) (w : World) (hl : xs.length = n) (hr : Rd w B a (cu xs)) (hm : n ≤ maxLen) :
    Calls Try.prog 36 #[.slice a n c, .int .u64 (v : Int)] w fun e w' => e = .returned (.bool (decide (v ∈ xs))) ∧ w = w' := by
  have hc := index_marks a n c B xs v w hl hr hm
  generalize decide (v ∈ xs) = b at *
  have HC := Lib.hid hc; clear hc hl
  go_enter Try.func36, Try.ntmps36
  go_wp2_with fail
  refine HC.out.mono ?_
  rintro e w1 ⟨r, rfl, hb, rfl⟩
  have HB := Lib.hid hb; clear hb
  go_wp2
  go_ret
  exact ⟨by rw [← HB.out]; rfl, rfl⟩

theorem box_at {w : World} {b : Nat} {cs : Array Value} {t : TypeId} (h : w.heap[b]? = some (.cells cs t (0, 0))) (i : Nat) {v : Value} (hv : cs[i]? = some v) : w.cell? ⟨b, i, none⟩ = some v := by
  rw [cell_of_row w b i cs t (0, 0) h]; exact hv
/-- A whole struct is stored into its box. -/
theorem wpList_store_box {P : Program} {ops : Array Oper} {rest : List Oper} {op : Oper} {a : Act} {w : World} {Q : Exit → Act → World → Prop} (hgd : op.guard = none) (ty : TypeId) (x y : Operand) (ho : op.op = .store ty x y)
    (g : Nat) (t : TypeId) (c c' : Array Value) (hx : a.eval x = .pointer (some ⟨g, 0, none⟩)) (hy : a.eval y = .agg c') (hg : w.heap[g]? = some (.cells c t (0, 0)))
    (hi : (P.info? ty).map (·.size) = some c'.size) (hs : c.size = c'.size) (h1 : c'.all (·.oneCell') = true)
    (h : wpList P ops Q rest (a.put op.dst undef) (w.setRow g c')) : wpList P ops Q (op :: rest) a w := by
  refine wpList_plain hgd fun _ hK => ?_
  unfold Oper.wp execOp
  simp only [ho, hx, hy, Instr.storeAt, Instr.sureAddr, Sem.run_bind, Sem.run_pure, Result.andThen_ok, run_storeVar_row w g t ty c c' hg hi hs h1]
  exact hK _ _ h
/-- The first row's next number, with its mark. -/
def fst1 : List Int → Int × Nat
  | [] => (0, 0)
  | x :: _ => (x, 1)
theorem fst1_no {xs : List Int} {p : Nat} (h : ¬ p < xs.length) : fst1 (xs.drop p) = (0, 0) := by rw [List.drop_eq_nil_of_le (by omega)]; rfl
theorem fst1_yes {xs : List Int} {p : Nat} (h : p < xs.length) : fst1 (xs.drop p) = (xs[p], 1) := by rw [List.drop_eq_getElem_cons h]; rfl
theorem lst_skip {xs ys : List Int} {p q : Nat} (h : ¬ q < ys.length) : lst (xs.drop p) (ys.drop q) = fst1 (xs.drop p) := by
  have e : ys.drop q = [] := List.drop_eq_nil_of_le (by omega)
  rw [e]
  cases xs.drop p <;> rfl
theorem lst_only {xs ys : List Int} {p q : Nat} (hp : ¬ p < xs.length) (h : q < ys.length) : lst (xs.drop p) (ys.drop q) = (ys[q], 2) := by
  have e : xs.drop p = [] := List.drop_eq_nil_of_le (by omega)
  rw [e, List.drop_eq_getElem_cons h]; rfl
theorem lst_less {xs ys : List Int} {p q : Nat} (hp : p < xs.length) (h : q < ys.length) (hlt : ys[q] < xs[p]) : lst (xs.drop p) (ys.drop q) = (ys[q], 2) := by
  rw [List.drop_eq_getElem_cons hp, List.drop_eq_getElem_cons h]; simp [lst, hlt]
theorem lst_same {xs ys : List Int} {p q : Nat} (hp : p < xs.length) (h : q < ys.length) (he : ys[q] = xs[p]) : lst (xs.drop p) (ys.drop q) = (xs[p], 3) := by
  rw [List.drop_eq_getElem_cons hp, List.drop_eq_getElem_cons h]; simp [lst, he]
theorem lst_more {xs ys : List Int} {p q : Nat} (hp : p < xs.length) (h : q < ys.length) (hlt : xs[p] < ys[q]) : lst (xs.drop p) (ys.drop q) = (xs[p], 1) := by
  rw [List.drop_eq_getElem_cons hp, List.drop_eq_getElem_cons h]; simp [lst, show ¬ ys[q] < xs[p] by omega, show ¬ ys[q] = xs[p] by omega]
/-- A place as cells. -/
def pcell (f : Int × Nat) : List Value := [.int .i64 f.1, .int .u64 (f.2 : Int)]

theorem Rd.two {w : World} {B : Nat} {a : Option Addr} {x y : Value} (h : Rd w B a [x, y]) : ∃ b o, a = some ⟨b, o, none⟩ ∧ b < B ∧ w.cell? ⟨b, o, none⟩ = some x ∧ w.cell? ⟨b, o + 1, none⟩ = some y := by
  obtain ⟨b, o, rfl, hb, hc⟩ := h.pos (by simp)
  exact ⟨b, o, rfl, hb, by simpa using hc 0 (by simp), by simpa using hc 1 (by simp)⟩

set_option maxHeartbeats 2000000 in
theorem least_any (ar aa a1 a2 : Option Addr) (cr ca n1 c1 n2 c2 p q B : Nat) (xs ys : List Int) (w : World) (h1 : xs.length = n1) (h2 : ys.length = n2)
    (hr : Rd w B ar [.slice a1 n1 c1, .slice a2 n2 c2]) (ha : Rd w B aa [.int .i64 (p : Int), .int .i64 (q : Int)]) (r1 : Rd w B a1 (ci xs)) (r2 : Rd w B a2 (ci ys)) (hB : B ≤ w.heap.size)
    (hp : p ≤ n1) (hq : q ≤ n2) (m1 : n1 ≤ 16) (m2 : n2 ≤ 16) :
    Calls Try.prog 37 #[.slice ar 2 cr, .slice aa 2 ca] w fun e w' => e = .returned (.agg (pcell (lst (xs.drop p) (ys.drop q))).toArray) ∧ Below w.heap.size w w' := by
  have l1 : p < n1 ↔ p < xs.length := by rw [h1]
  have l2 : q < n2 ↔ q < ys.length := by rw [h2]
  have H1 := Lib.hid h1; have H2 := Lib.hid h2
  clear h1 h2
  obtain ⟨br, bo, rfl, hbr, hr0, hr1⟩ := hr.two
  obtain ⟨ba, bao, rfl, hba, ha0, ha1⟩ := ha.two
  clear hr ha
  have hT : (Try.prog.info? 46).map (·.size) = some 2 := by kernel_rfl
  have HI := Lib.hid hT; clear hT
  go_enter Try.func37, Try.ntmps37
  go_wp2
  have hz0 := Lib.hid (heap_alloc2_old w (.cells #[.int .i64 0, .int .u64 0] 46) (.cells #[.int .i64 0, .int .u64 0] 46))
  have hz1 := Lib.hid (heap_alloc2_new w (.cells #[.int .i64 0, .int .u64 0] 46) (.cells #[.int .i64 0, .int .u64 0] 46))
  have hb0 := ((Below.refl w.heap.size w).alloc (Nat.le_refl _) (.cells #[.int .i64 0, .int .u64 0] 46)).alloc (by simp) (.cells #[.int .i64 0, .int .u64 0] 46)
  go_loopw [10] (fun i wr => ∃ f : Int × Nat, ((i = .int .i64 0 ∧ f = (0, 0)) ∨ (i = .int .i64 1 ∧ f = fst1 (xs.drop p)) ∨ (i = .int .i64 2 ∧ f = lst (xs.drop p) (ys.drop q))) ∧ Hid (wr.heap[w.heap.size]? = some (.cells #[.int .i64 0, .int .u64 0] 46 (0, 0))) ∧ Hid (wr.heap[w.heap.size + 1]? = some (.cells #[.int .i64 f.1, .int .u64 (f.2 : Int)] 46 (0, 0))) ∧ Below w.heap.size w wr) (fun i _ => 2 - (intOf i).toNat)
  case atStart => exact ⟨(0, 0), .inl ⟨rfl, rfl⟩, hz0, hz1, hb0⟩
  case round =>
    clear hz0 hz1 hb0
    obtain ⟨f, hf, hz0, hz1, hb⟩ := hrel
    have hr0' := (hb.cell (p := ⟨br, bo, none⟩) (Nat.lt_of_lt_of_le hbr hB)).trans hr0
    have hr1' := (hb.cell (p := ⟨br, bo + 1, none⟩) (Nat.lt_of_lt_of_le hbr hB)).trans hr1
    have ha0' := (hb.cell (p := ⟨ba, bao, none⟩) (Nat.lt_of_lt_of_le hba hB)).trans ha0
    have ha1' := (hb.cell (p := ⟨ba, bao + 1, none⟩) (Nat.lt_of_lt_of_le hba hB)).trans ha1
    rcases hf with ⟨rfl, rfl⟩ | ⟨rfl, rfl⟩ | ⟨rfl, rfl⟩
    · by_cases hlt : p < n1
      · have hf1 := fst1_yes (l1.1 hlt)
        obtain ⟨b1, o1, rfl, hB1, hc1⟩ := r1.pos (by rw [length_ci, H1.out]; omega)
        have hck := (hb.cell (p := ⟨b1, o1 + p, none⟩) (Nat.lt_of_lt_of_le hB1 hB)).trans (hc1 p (by rw [length_ci, H1.out]; omega))
        rw [ci_get] at hck
        clear hc1
        have HF1 := Lib.hid hf1; clear hf1
        generalize xs[p] = x at *
        have hpn : ((p : Int) == (n1 : Int)) = false := by simp; omega
        have p0 : (0 : Int) ≤ (p : Int) := by omega
        have p1 : (p : Int) < (n1 : Int) := by omega
        have x0 : wr.cell? ⟨w.heap.size + 1, 0, none⟩ = some (.int .i64 0) := box_at hz1.out 0 rfl
        have x1 : wr.cell? ⟨w.heap.size + 1, 1, none⟩ = some (.int .u64 0) := box_at hz1.out 1 rfl
        have ho : Hid ((#[.int .i64 x, .int .u64 1] : Array Value).all (·.oneCell') = true) := Lib.hid (by kernel_rfl)
        go_wp2_with fail
        go_quiet (fail)
        go_wp2_with fail
        go_quiet (fail)
        clear hpn
        go_wp2_with (refine wpList_store_box rfl 46 _ _ rfl (w.heap.size + 1) 46 _ #[.int .i64 x, .int .u64 1] rfl rfl hz1.out HI.out rfl ho.out ?_)
        go_roundw
        case rel => exact ⟨(x, 1), .inr (.inl ⟨rfl, HF1.out.symm⟩), Lib.hid ((setRow_other _ _ _ _ (by omega)).trans hz0.out), Lib.hid (setRow_heap _ _ _ _ _ _ hz1.out), below_setRow (below_drawn hb _) (by omega) _⟩
        case measure => simp [intOf]
      · have hf1 := fst1_no (fun h => hlt (l1.2 h))
        rw [hf1]
        have hpn : ((p : Int) == (n1 : Int)) = true := by simp; omega
        clear hf1
        go_wp2_with fail
        go_quiet (fail)
        go_wp2
        go_roundw
        case rel => exact ⟨(0, 0), .inr (.inl ⟨rfl, rfl⟩), hz0, hz1, below_drawn hb _⟩
        case measure => simp [intOf]
    · by_cases hlt : q < n2
      · have l2q := l2.1 hlt
        obtain ⟨b2, o2, rfl, hB2, hc2⟩ := r2.pos (by rw [length_ci, H2.out]; omega)
        have hck := (hb.cell (p := ⟨b2, o2 + q, none⟩) (Nat.lt_of_lt_of_le hB2 hB)).trans (hc2 q (by rw [length_ci, H2.out]; omega))
        rw [ci_get] at hck
        clear hc2
        have hqn : ((q : Int) == (n2 : Int)) = false := by simp; omega
        have p0 : (0 : Int) ≤ (q : Int) := by omega
        have p1 : (q : Int) < (n2 : Int) := by omega
        by_cases hlp : p < n1
        · have l1p := l1.1 hlp
          have hf1 := fst1_yes l1p
          have hless := fun h => lst_less l1p l2q h
          have hsame := fun h => lst_same l1p l2q h
          have hmore := fun h => lst_more l1p l2q h
          rw [hf1] at hz1
          generalize xs[p] = x at *
          generalize ys[q] = y at *
          clear hf1
          have x0 : wr.cell? ⟨w.heap.size + 1, 0, none⟩ = some (.int .i64 x) := box_at hz1.out 0 rfl
          have x1 : wr.cell? ⟨w.heap.size + 1, 1, none⟩ = some (.int .u64 1) := box_at hz1.out 1 rfl
          have ho : Hid ((#[.int .i64 y, .int .u64 2] : Array Value).all (·.oneCell') = true) := Lib.hid (by kernel_rfl)
          by_cases hyx : y < x
          · have HF := Lib.hid (hless hyx)
            clear hless hsame hmore
            go_wp2_with fail
            go_quiet (fail)
            go_wp2_with fail
            go_quiet (fail)
            clear hqn
            go_wp2_with (refine wpList_store_box rfl 46 _ _ rfl (w.heap.size + 1) 46 _ #[.int .i64 y, .int .u64 2] rfl rfl hz1.out HI.out rfl ho.out ?_)
            go_roundw
            case rel => exact ⟨(y, 2), .inr (.inr ⟨rfl, HF.out.symm⟩), Lib.hid ((setRow_other _ _ _ _ (by omega)).trans hz0.out), Lib.hid (setRow_heap _ _ _ _ _ _ hz1.out), below_setRow (below_drawn hb _) (by omega) _⟩
            case measure => simp [intOf]
          · by_cases hye : y = x
            · subst hye
              have HF := Lib.hid (hsame rfl)
              clear hless hsame hmore
              go_wp2_with fail
              go_quiet (fail)
              go_wp2_with fail
              go_quiet (fail)
              clear hqn
              have hfz := frozen_of_row _ (w.heap.size + 1) 1 _ _ hz1.out
              go_wp2_with fail
              go_region
              go_wp2_with fail
              go_roundw
              case rel => exact ⟨(y, 3), .inr (.inr ⟨rfl, HF.out.symm⟩), Lib.hid ((Below.heap_setCell _ _ _ _ (by simp)).trans hz0.out), Lib.hid (heap_setCell_same _ _ 1 _ _ _ hz1.out), (below_drawn hb _).setCell (by simp) _⟩
              case measure => simp [intOf]
            · have HF := Lib.hid (hmore (by omega))
              clear hless hsame hmore
              have hye' : (y == x) = false := by simpa using hye
              go_wp2_with fail
              go_quiet (fail)
              go_wp2_with fail
              go_quiet (fail)
              clear hqn
              go_wp2_with fail
              go_roundw
              case rel => exact ⟨(x, 1), .inr (.inr ⟨rfl, HF.out.symm⟩), hz0, hz1, below_drawn hb _⟩
              case measure => simp [intOf]
        · have hf1 := fst1_no (fun h => hlp (l1.2 h))
          have HF := Lib.hid (lst_only (fun h => hlp (l1.2 h)) l2q)
          rw [hf1] at hz1
          generalize ys[q] = y at *
          clear hf1
          have x0 : wr.cell? ⟨w.heap.size + 1, 0, none⟩ = some (.int .i64 0) := box_at hz1.out 0 rfl
          have x1 : wr.cell? ⟨w.heap.size + 1, 1, none⟩ = some (.int .u64 0) := box_at hz1.out 1 rfl
          have ho : Hid ((#[.int .i64 y, .int .u64 2] : Array Value).all (·.oneCell') = true) := Lib.hid (by kernel_rfl)
          go_wp2_with fail
          go_quiet (fail)
          go_wp2_with fail
          go_quiet (fail)
          clear hqn
          go_wp2_with (refine wpList_store_box rfl 46 _ _ rfl (w.heap.size + 1) 46 _ #[.int .i64 y, .int .u64 2] rfl rfl hz1.out HI.out rfl ho.out ?_)
          go_roundw
          case rel => exact ⟨(y, 2), .inr (.inr ⟨rfl, HF.out.symm⟩), Lib.hid ((setRow_other _ _ _ _ (by omega)).trans hz0.out), Lib.hid (setRow_heap _ _ _ _ _ _ hz1.out), below_setRow (below_drawn hb _) (by omega) _⟩
          case measure => simp [intOf]
      · have hf1 := lst_skip (xs := xs) (p := p) (fun h => hlt (l2.2 h))
        have HF1 := Lib.hid hf1; clear hf1
        have hqn : ((q : Int) == (n2 : Int)) = true := by simp; omega
        go_wp2_with fail
        go_quiet (fail)
        go_wp2
        go_roundw
        case rel => exact ⟨_, .inr (.inr ⟨rfl, HF1.out.symm⟩), hz0, hz1, below_drawn hb _⟩
        case measure => simp [intOf]
    · obtain ⟨f, hf⟩ : ∃ f, f = lst (xs.drop p) (ys.drop q) := ⟨_, rfl⟩
      rw [← hf] at hz1
      have HF := Lib.hid hf; clear hf
      have x0 : wr.cell? ⟨w.heap.size + 1, 0, none⟩ = some (.int .i64 f.1) := box_at hz1.out 0 rfl
      have x1 : wr.cell? ⟨w.heap.size + 1, 1, none⟩ = some (.int .u64 (f.2 : Int)) := box_at hz1.out 1 rfl
      have ho : Hid ((#[.int .i64 f.1, .int .u64 (f.2 : Int)] : Array Value).all (·.oneCell') = true) := Lib.hid (by kernel_rfl)
      have HROW := Lib.hid (setRow_heap wr w.heap.size _ #[.int .i64 f.1, .int .u64 (f.2 : Int)] _ _ hz0.out)
      go_wp2_with (refine wpList_store_box rfl 46 _ _ rfl w.heap.size 46 _ #[.int .i64 f.1, .int .u64 (f.2 : Int)] rfl rfl hz0.out HI.out rfl ho.out ?_)
      refine bodyPost_ret (results_cell_row rfl _ _ w.heap.size _ _ (0, 0) _ rfl HROW.out Try.underlying46 rfl HI.out) rfl ?_
      exact ⟨by rw [← HF.out]; rfl, below_setRow hb (Nat.le_refl _) _⟩
end Go.Proofs.Ytmionaamaojjbaa
