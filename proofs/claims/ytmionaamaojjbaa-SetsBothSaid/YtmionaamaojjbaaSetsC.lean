/-
  Sets: two rows merged: by contract.
-/
import Derived.Test.YtmionaamaojjbaaSetsB
import Derived.Deep.Onto
namespace Go.Proofs.Ytmionaamaojjbaa
open Go.RowKit

/-- A row of the call's own stands behind what leaves all older blocks alone. -/
theorem own_over {w w' : World} {base : Nat} {e : TypeId} {size : Nat} {v : Value} {n : Nat} {xs : List Value} (h : w.ownsRow base e size v n xs) (hb : Below w.heap.size w w') : w'.ownsRow base e size v n xs := by
  rcases h with ⟨hl, h | ⟨g, cap, cur, h1, h2, h3, h4⟩⟩
  · exact ⟨hl, .inl h⟩
  · exact ⟨hl, .inr ⟨g, cap, cur, h1, h2, (hb.block g (lt_of_some h3)).trans h3, h4⟩⟩
/-- Places as cells. -/
def pcs (ps : List (Int × Nat)) : List Value := ps.flatMap pcell
theorem pcs_snoc (ps : List (Int × Nat)) (f : Int × Nat) : pcs (ps ++ [f]) = pcs ps ++ pcell f := by simp [pcs]
theorem length_pcs (ps : List (Int × Nat)) : (pcs ps).length = ps.length * 2 := by
  induction ps with
  | nil => rfl
  | cons p r ih => simp only [pcs, List.flatMap_cons, List.length_append, List.length_cons] at *; rw [ih]; simp [pcell]; omega
theorem info_place : (Try.prog.info? 46).map (fun i => (i.zero, i.size, i.bytes)) = some (some (.agg #[.int .i64 0, .int .u64 0]), 2, 16) := by kernel_rfl
/-- A struct is stored into the block that was made last. -/
theorem wpList_store_new {P : Program} {ops : Array Oper} {rest : List Oper} {op : Oper} {a : Act} {Q : Exit → Act → World → Prop} (w0 : World) (hgd : op.guard = none) (ty : TypeId) (x y : Operand) (ho : op.op = .store ty x y)
    (T : TypeId) (c c' : Array Value) (n : Nat) (hn : w0.heap.size = n) (hx : a.eval x = .pointer (some ⟨n, 0, none⟩)) (hy : a.eval y = .agg c')
    (hi : (P.info? ty).map (·.size) = some c'.size) (hs : c.size = c'.size) (h1 : c'.all (·.oneCell') = true)
    (h : wpList P ops Q rest (a.put op.dst undef) (w0.alloc (.cells c' T))) : wpList P ops Q (op :: rest) a (w0.alloc (.cells c T)) := by
  subst hn
  have e := setRow_alloc w0 c c' T
  rw [← e] at h
  exact wpList_store_box hgd ty x y ho w0.heap.size T c c' hx hy (heap_alloc_new w0 _) hi hs h1 h
def lenV : Value → Nat
  | .slice _ n _ => n
  | _ => 0
theorem own_len {w : World} {base : Nat} {e : TypeId} {size : Nat} {v : Value} {n : Nat} {xs : List Value} (h : w.ownsRow base e size v n xs) : ∃ a cap, v = .slice a n cap := by
  rcases h.2 with ⟨rfl, rfl⟩ | ⟨g, cap, cur, rfl, _⟩
  · exact ⟨none, 0, rfl⟩
  · exact ⟨_, cap, rfl⟩
theorem cells_fresh (w : World) (cs : List Value) (t : TypeId) : ∀ j u, cs[j]? = some u → (w.alloc (.cells cs.toArray t)).cell? ((⟨w.heap.size, 0, none⟩ : Addr).add j) = some u := by
  intro j u hu
  unfold Addr.add
  split
  · rename_i hz
    subst hz
    rw [cell_of_row _ _ _ _ _ _ (heap_alloc_new w _)]
    simpa using hu
  · rw [cell_of_row _ _ _ _ _ _ (heap_alloc_new w _)]
    simpa using hu
theorem ones_two (x y : Int) : ∀ u ∈ [Value.int .i64 x, Value.int .u64 y], u.oneCell' = true := by
  intro u hu
  simp at hu
  rcases hu with rfl | rfl <;> rfl
theorem own_kept {w w' : World} {base : Nat} {e : TypeId} {size : Nat} {v : Value} {n : Nat} {xs : List Value} (h : w.ownsRow base e size v n xs) (hk : ∀ k, base ≤ k → w'.heap[k]? = w.heap[k]?) : w'.ownsRow base e size v n xs := by
  rcases h with ⟨hl, h | ⟨g, cap, cur, h1, h2, h3, h4⟩⟩
  · exact ⟨hl, .inl h⟩
  · exact ⟨hl, .inr ⟨g, cap, cur, h1, h2, (hk g h2).trans h3, h4⟩⟩
/-- How far two rows are merged. -/
def MrgAt (xs ys : List Int) (p q : Nat) (acc : List (Int × Nat)) : Prop :=
  acc ++ mrg (xs.drop p) (ys.drop q) = mrg xs ys ∧ p ≤ xs.length ∧ q ≤ ys.length ∧ acc.length ≤ p + q
theorem mrgAt_zero (xs ys : List Int) : MrgAt xs ys 0 0 [] := ⟨by simp, Nat.zero_le _, Nat.zero_le _, Nat.le_refl _⟩
theorem mrgAt_end {xs ys : List Int} {p q : Nat} {acc : List (Int × Nat)} (h : MrgAt xs ys p q acc) (h0 : (lst (xs.drop p) (ys.drop q)).2 = 0) : mrg xs ys = acc := by
  rw [← h.1, mrg_end h0, List.append_nil]
theorem drop_some {xs : List Int} {p : Nat} (h : xs.drop p ≠ []) : p + 1 ≤ xs.length := by
  rcases Nat.lt_or_ge p xs.length with hlt | hge
  · exact hlt
  · exact absurd (List.drop_eq_nil_of_le hge) h
theorem mrgAt_one {xs ys : List Int} {p q : Nat} {acc : List (Int × Nat)} {f : Int × Nat} (h : MrgAt xs ys p q acc) (hf : f = lst (xs.drop p) (ys.drop q)) (h1 : f.2 = 1) : MrgAt xs ys (p + 1) q (acc ++ [f]) := by
  rw [hf] at h1
  obtain ⟨hn, hm⟩ := mrg_one h1
  have := drop_some hn
  have h0 := h.1
  rw [hm, List.drop_drop] at h0
  exact ⟨by rw [← h0, hf]; simp, by omega, h.2.2.1, by have := h.2.2.2; simp; omega⟩
theorem mrgAt_two {xs ys : List Int} {p q : Nat} {acc : List (Int × Nat)} {f : Int × Nat} (h : MrgAt xs ys p q acc) (hf : f = lst (xs.drop p) (ys.drop q)) (h1 : f.2 = 2) : MrgAt xs ys p (q + 1) (acc ++ [f]) := by
  rw [hf] at h1
  obtain ⟨hn, hm⟩ := mrg_two h1
  have := drop_some hn
  have h0 := h.1
  rw [hm, List.drop_drop] at h0
  exact ⟨by rw [← h0, hf]; simp, h.2.1, by omega, by have := h.2.2.2; simp; omega⟩
theorem mrgAt_three {xs ys : List Int} {p q : Nat} {acc : List (Int × Nat)} {f : Int × Nat} (h : MrgAt xs ys p q acc) (hf : f = lst (xs.drop p) (ys.drop q)) (h1 : f.2 = 3) : MrgAt xs ys (p + 1) (q + 1) (acc ++ [f]) := by
  rw [hf] at h1
  obtain ⟨hn, hn2, hm⟩ := mrg_three h1
  have := drop_some hn
  have := drop_some hn2
  have h0 := h.1
  rw [hm, List.drop_drop, List.drop_drop] at h0
  exact ⟨by rw [← h0, hf]; simp, by omega, by omega, by have := h.2.2.2; simp; omega⟩

set_option maxHeartbeats 4000000 in
theorem merge_any (ar a1 a2 : Option Addr) (cr n1 c1 n2 c2 B : Nat) (xs ys : List Int) (w : World) (h1 : xs.length = n1) (h2 : ys.length = n2)
    (hr : Rd w B ar [.slice a1 n1 c1, .slice a2 n2 c2]) (r1 : Rd w B a1 (ci xs)) (r2 : Rd w B a2 (ci ys)) (hB : B ≤ w.heap.size)
    (m1 : n1 ≤ 16) (m2 : n2 ≤ 16) :
    Calls Try.prog 33 #[.slice ar 2 cr] w fun e w' => ∃ o, e = .returned o ∧ w'.ownsRow w.heap.size 46 2 o (mrg xs ys).length (pcs (mrg xs ys)) ∧ Below w.heap.size w w' := by
  obtain ⟨i0, hi, hy0, hy1, hy2⟩ := info_parts info_place
  have hT : (Try.prog.info? 46).map (·.size) = some 2 := by kernel_rfl
  have HI := Lib.hid hT; clear hT
  have hmk := run_make_ints 2 (by omega) (by omega)
  rw [show (2 : Int).toNat = 2 from rfl, show (zi 2).toArray = #[.int .i64 0, .int .i64 0] from rfl] at hmk
  have H1 := Lib.hid h1; have H2 := Lib.hid h2
  clear h1 h2
  go_enter Try.func33, Try.ntmps33
  go_wp2
  have hz0 := Lib.hid (heap_alloc_new w (.cells #[.int .i64 0, .int .i64 0] 3))
  have hb0 := ((Below.refl w.heap.size w).alloc (Nat.le_refl _) (.cells #[.int .i64 0, .int .i64 0] 3))
  go_loopw [3] (fun o wr => ∃ (p q : Nat) (acc : List (Int × Nat)) (o' : Value), o' = o ∧ Hid (MrgAt xs ys p q acc) ∧ wr.ownsRow (w.heap.size + 1) 46 2 o' acc.length (pcs acc) ∧ Hid (wr.heap[w.heap.size]? = some (.cells #[.int .i64 (p : Int), .int .i64 (q : Int)] 3 (0, 0))) ∧ Below w.heap.size w wr) (fun o _ => n1 + n2 - lenV o)
  case atStart => exact ⟨0, 0, [], _, rfl, Lib.hid (mrgAt_zero xs ys), World.ownsRow_nil _ _ _ _, hz0, hb0⟩
  case round =>
    clear hz0 hb0 hmk
    obtain ⟨p, q, acc, o', rfl, hat, hown, hz0, hb⟩ := hrel
    have hp := hat.out.2.1
    have hq := hat.out.2.2.1
    have hac := hat.out.2.2.2
    rw [H1.out] at hp
    rw [H2.out] at hq
    have hbz : w.heap.size + 1 ≤ wr.heap.size := lt_of_some hz0.out
    have haa : Rd wr (w.heap.size + 1) (some ⟨w.heap.size, 0, none⟩) [.int .i64 (p : Int), .int .i64 (q : Int)] := by
      have := Rd.row (off := 0) (n := 2) (L := [.int .i64 (p : Int), .int .i64 (q : Int)]) hz0.out (Nat.lt_succ_self _) (by simp)
      exact this
    have hrr := (hr.below hb hB).more (show B ≤ w.heap.size + 1 by omega)
    have hr1 := (r1.below hb hB).more (show B ≤ w.heap.size + 1 by omega)
    have hr2 := (r2.below hb hB).more (show B ≤ w.heap.size + 1 by omega)
    go_wp2_with fail
    refine (least_any _ _ a1 a2 cr _ n1 c1 n2 c2 p q (w.heap.size + 1) xs ys wr H1.out H2.out hrr haa hr1 hr2 hbz hp hq m1 m2).mono ?_
    rintro e w1 ⟨rfl, hb1⟩
    clear hrr hr1 hr2 haa
    obtain ⟨f, hf⟩ : ∃ f, f = lst (xs.drop p) (ys.drop q) := ⟨_, rfl⟩
    rw [← hf]
    have h3 := lst_three (xs.drop p) (ys.drop q)
    rw [← hf] at h3
    have hst1 := fun h => mrgAt_one hat.out hf h
    have hst2 := fun h => mrgAt_two hat.out hf h
    have hst3 := fun h => mrgAt_three hat.out hf h
    have hst0 := fun h : f.2 = 0 => mrgAt_end hat.out (hf ▸ h)
    have HF := Lib.hid hf; clear hf
    obtain ⟨x, c⟩ := f
    simp only [pcell] at *
    rcases h3 with rfl | rfl | rfl | rfl
    · have hst := Lib.hid (hst0 rfl)
      clear hst0 hst1 hst2 hst3 HF
      have ho : Hid ((#[.int .i64 x, .int .u64 ((0 : Nat) : Int)] : Array Value).all (·.oneCell') = true) := Lib.hid (by kernel_rfl)
      have own1 := (own_over hown hb1).alloc (.cells #[.int .i64 x, .int .u64 ((0 : Nat) : Int)] 46)
      have hb2 := ((hb.trans (hb1.mono hb.size)).alloc (Nat.le_trans hb.size hb1.size) (.cells #[.int .i64 x, .int .u64 ((0 : Nat) : Int)] 46))
      have hbox : (w1.alloc (.cells #[.int .i64 x, .int .u64 ((0 : Nat) : Int)] 46)).cell? ⟨w1.heap.size, 1, none⟩ = some (.int .u64 ((0 : Nat) : Int)) := box_at (heap_alloc_new w1 _) 1 rfl
      go_wp2_with (refine wpList_store_new w1 rfl 46 _ _ rfl 46 #[.int .i64 0, .int .u64 0] #[.int .i64 x, .int .u64 ((0 : Nat) : Int)] w1.heap.size rfl rfl rfl HI.out rfl ho.out ?_)
      go_ret
      exact ⟨_, rfl, by rw [hst.out]; exact World.ownsRow.mono own1 (Nat.le_succ _), hb2⟩
    · have hst := Lib.hid (hst1 rfl)
      clear hst0 hst1 hst2 hst3 HF
      have ho : Hid ((#[.int .i64 x, .int .u64 (1 : Int)] : Array Value).all (·.oneCell') = true) := Lib.hid (by kernel_rfl)
      have hws : w1.heap.size = w1.heap.size := rfl
      have own1 := own_over hown hb1
      have hz1 := Lib.hid ((hb1.block _ (show w.heap.size < wr.heap.size by omega)).trans hz0.out)
      have own2 := (own1.alloc (.cells #[.int .i64 x, .int .u64 (1 : Int)] 46)).alloc (.cells #[.int .i64 x, .int .u64 (1 : Int)] 46)
      have hbox := Lib.hid (heap_alloc2_old w1 (.cells #[.int .i64 x, .int .u64 (1 : Int)] 46) (.cells #[.int .i64 x, .int .u64 (1 : Int)] 46))
      have hlit := cells_fresh (w1.alloc (.cells #[.int .i64 x, .int .u64 (1 : Int)] 46)) [.int .i64 x, .int .u64 (1 : Int)] 46
      have hz2 := Lib.hid ((((Below.refl w1.heap.size w1).alloc (Nat.le_refl _) (.cells #[.int .i64 x, .int .u64 (1 : Int)] 46)).alloc (by simp) (.cells #[.int .i64 x, .int .u64 (1 : Int)] 46)).block w.heap.size (by have := hb1.size; omega) |>.trans hz1.out)
      have hb2 := (((hb.trans (hb1.mono hb.size)).alloc (Nat.le_trans hb.size hb1.size) (.cells #[.int .i64 x, .int .u64 (1 : Int)] 46)).alloc (by have := hb.size; have := hb1.size; simp; omega) (.cells #[.int .i64 x, .int .u64 (1 : Int)] 46))
      have hbz1 := hb1.size
      clear own1 hz1 hws
      go_wp2_with (first
        | (refine wpList_store_new w1 rfl 46 _ _ rfl 46 #[.int .i64 0, .int .u64 0] #[.int .i64 x, .int .u64 (1 : Int)] w1.heap.size rfl rfl rfl HI.out rfl ho.out ?_)
        | (at_builtin; refine wpList_append_own_at _ rfl _ _ 38 rfl (w.heap.size + 1) 46 i0 _ 2 16 Try.underlying38 hi hy0 hy1 hy2 rfl (by decide) _ _ _ rfl own2 ⟨_, 0, none⟩ 1 1 [.int .i64 x, .int .u64 (1 : Int)] rfl rfl ?c1_1 ?c1_2 ?c1_3 ?c1_4 ?c1_5 ?_))
      case c1_1 => simpa using hlit
      case c1_2 => exact ones_two _ _
      case c1_3 => unfold maxLen; omega
      case c1_4 => omega
      case c1_5 => simp; omega
      intro o3 w3 hown3 hgrow _ hat3
      have hbox3 := Lib.hid ((hgrow.block w1.heap.size (by simp; omega) (fun e => by have := (hown.lt w1.heap.size e.symm).2; omega)).trans hbox.out)
      have hz3 := Lib.hid ((hgrow.block w.heap.size (by simp; omega) (fun e => by have := (hown.lt w.heap.size e.symm).1; omega)).trans hz2.out)
      have hb3 := hb2.grown hgrow (Nat.le_trans hb.size (Nat.le_trans hbz1 (by simp; omega))) (fun j hj => by have := (hown.lt j hj).1; omega)
      have hfs : acc.length + 1 = (acc ++ [(x, 1)]).length := by simp
      rw [hfs, show pcs acc ++ [.int .i64 x, .int .u64 (1 : Int)] = pcs (acc ++ [(x, 1)]) from (pcs_snoc acc (x, 1)).symm] at hown3
      obtain ⟨ao, co, rfl⟩ := own_len hown
      obtain ⟨a3, c3, rfl⟩ := own_len hown3
      have hlen : (acc ++ [(x, 1)]).length ≤ n1 + n2 := by have := hst.out; rw [MrgAt, H1.out, H2.out] at this; omega
      have HFS := Lib.hid hfs; clear hfs
      have hne1 : w1.heap.size ≠ w.heap.size := by omega
      clear hlit hbox hz2 hb2 own2 hgrow hat3 ho
      go_wp2_with fail
      go_loopw [23] (fun i wi => ∃ P Q : Nat, ((i = .int .i64 0 ∧ P = p ∧ Q = q) ∨ (i = .int .i64 1 ∧ P = p + 1 ∧ Q = q) ∨ (i = .int .i64 2 ∧ P = p + 1 ∧ Q = q + 0)) ∧ Hid (wi.heap[w.heap.size]? = some (.cells #[.int .i64 (P : Int), .int .i64 (Q : Int)] 3 (0, 0))) ∧ Hid (∀ k, k ≠ w.heap.size → wi.heap[k]? = w3.heap[k]?) ∧ Below w.heap.size w wi) (fun i _ => 2 - (intOf i).toNat)
      case atStart => exact ⟨p, q, .inl ⟨rfl, rfl, rfl⟩, hz3, Lib.hid (fun _ _ => rfl), hb3⟩
      case round =>
        obtain ⟨P, Q, hpq, hz, ho, hbi⟩ := hrel
        have x1 : wr.cell? ⟨w1.heap.size, 1, none⟩ = some (.int .u64 (1 : Int)) := box_at ((ho.out _ hne1).trans hbox3.out) 1 rfl
        have y0 : wr.cell? ⟨w.heap.size, 0, none⟩ = some (.int .i64 (P : Int)) := box_at hz.out 0 rfl
        have y1 : wr.cell? ⟨w.heap.size, 1, none⟩ = some (.int .i64 (Q : Int)) := box_at hz.out 1 rfl
        have f0 := frozen_of_row _ w.heap.size 0 _ _ hz.out
        have f1 := frozen_of_row _ w.heap.size 1 _ _ hz.out
        rcases hpq with ⟨rfl, hP, hQ⟩ | ⟨rfl, hP, hQ⟩ | ⟨rfl, hP, hQ⟩
        · have HP := Lib.hid hP; have HQ := Lib.hid hQ; clear hP hQ
          have hPn : P ≤ 17 := by have := HP.out; omega
          have hQn : Q ≤ 17 := by have := HQ.out; omega
          go_wp2_with fail
          go_quiet (fail)
          go_wp2_with fail
          go_roundw
          case rel => exact ⟨P + 1, Q, .inr (.inl ⟨rfl, by have := HP.out; omega, HQ.out⟩), Lib.hid (by have := heap_setCell_same (wr.drewN nq) w.heap.size 0 _ _ (.int .i64 ((P : Int) + 1)) hz.out; simpa using this), Lib.hid (fun k hk => (Below.heap_setCell _ _ _ _ (by simpa using hk)).trans (ho.out k hk)), (below_drawn hbi _).setCell (by simp) _⟩
          case measure => simp [intOf]
        · have HP := Lib.hid hP; have HQ := Lib.hid hQ; clear hP hQ
          have hPn : P ≤ 17 := by have := HP.out; omega
          have hQn : Q ≤ 17 := by have := HQ.out; omega
          go_wp2_with fail
          go_quiet (fail)
          go_wp2_with fail
          go_roundw
          case rel => exact ⟨P, Q, .inr (.inr ⟨rfl, HP.out, by have := HQ.out; omega⟩), hz, ho, below_drawn hbi _⟩
          case measure => simp [intOf]
        · have HP := Lib.hid hP; have HQ := Lib.hid hQ; clear hP hQ
          have hPn : P ≤ 17 := by have := HP.out; omega
          have hQn : Q ≤ 17 := by have := HQ.out; omega
          go_wp2_with fail
          go_roundw
          case rel =>
            have own4 : wr.ownsRow (w.heap.size + 1) 46 2 (.slice a3 (acc ++ [(x, 1)]).length c3) (acc ++ [(x, 1)]).length (pcs (acc ++ [(x, 1)])) := own_kept hown3 (fun k hk => ho.out k (by omega))
            exact ⟨P, Q, _, _, rfl, Lib.hid (by rw [HP.out, HQ.out]; exact hst.out), own4, hz, hbi⟩
          case measure => simp only [lenV]; have := HFS.out; omega
    · have hst := Lib.hid (hst2 rfl)
      clear hst0 hst1 hst2 hst3 HF
      have ho : Hid ((#[.int .i64 x, .int .u64 (2 : Int)] : Array Value).all (·.oneCell') = true) := Lib.hid (by kernel_rfl)
      have hws : w1.heap.size = w1.heap.size := rfl
      have own1 := own_over hown hb1
      have hz1 := Lib.hid ((hb1.block _ (show w.heap.size < wr.heap.size by omega)).trans hz0.out)
      have own2 := (own1.alloc (.cells #[.int .i64 x, .int .u64 (2 : Int)] 46)).alloc (.cells #[.int .i64 x, .int .u64 (2 : Int)] 46)
      have hbox := Lib.hid (heap_alloc2_old w1 (.cells #[.int .i64 x, .int .u64 (2 : Int)] 46) (.cells #[.int .i64 x, .int .u64 (2 : Int)] 46))
      have hlit := cells_fresh (w1.alloc (.cells #[.int .i64 x, .int .u64 (2 : Int)] 46)) [.int .i64 x, .int .u64 (2 : Int)] 46
      have hz2 := Lib.hid ((((Below.refl w1.heap.size w1).alloc (Nat.le_refl _) (.cells #[.int .i64 x, .int .u64 (2 : Int)] 46)).alloc (by simp) (.cells #[.int .i64 x, .int .u64 (2 : Int)] 46)).block w.heap.size (by have := hb1.size; omega) |>.trans hz1.out)
      have hb2 := (((hb.trans (hb1.mono hb.size)).alloc (Nat.le_trans hb.size hb1.size) (.cells #[.int .i64 x, .int .u64 (2 : Int)] 46)).alloc (by have := hb.size; have := hb1.size; simp; omega) (.cells #[.int .i64 x, .int .u64 (2 : Int)] 46))
      have hbz1 := hb1.size
      clear own1 hz1 hws
      go_wp2_with (first
        | (refine wpList_store_new w1 rfl 46 _ _ rfl 46 #[.int .i64 0, .int .u64 0] #[.int .i64 x, .int .u64 (2 : Int)] w1.heap.size rfl rfl rfl HI.out rfl ho.out ?_)
        | (at_builtin; refine wpList_append_own_at _ rfl _ _ 38 rfl (w.heap.size + 1) 46 i0 _ 2 16 Try.underlying38 hi hy0 hy1 hy2 rfl (by decide) _ _ _ rfl own2 ⟨_, 0, none⟩ 1 1 [.int .i64 x, .int .u64 (2 : Int)] rfl rfl ?c2_1 ?c2_2 ?c2_3 ?c2_4 ?c2_5 ?_))
      case c2_1 => simpa using hlit
      case c2_2 => exact ones_two _ _
      case c2_3 => unfold maxLen; omega
      case c2_4 => omega
      case c2_5 => simp; omega
      intro o3 w3 hown3 hgrow _ hat3
      have hbox3 := Lib.hid ((hgrow.block w1.heap.size (by simp; omega) (fun e => by have := (hown.lt w1.heap.size e.symm).2; omega)).trans hbox.out)
      have hz3 := Lib.hid ((hgrow.block w.heap.size (by simp; omega) (fun e => by have := (hown.lt w.heap.size e.symm).1; omega)).trans hz2.out)
      have hb3 := hb2.grown hgrow (Nat.le_trans hb.size (Nat.le_trans hbz1 (by simp; omega))) (fun j hj => by have := (hown.lt j hj).1; omega)
      have hfs : acc.length + 1 = (acc ++ [(x, 2)]).length := by simp
      rw [hfs, show pcs acc ++ [.int .i64 x, .int .u64 (2 : Int)] = pcs (acc ++ [(x, 2)]) from (pcs_snoc acc (x, 2)).symm] at hown3
      obtain ⟨ao, co, rfl⟩ := own_len hown
      obtain ⟨a3, c3, rfl⟩ := own_len hown3
      have hlen : (acc ++ [(x, 2)]).length ≤ n1 + n2 := by have := hst.out; rw [MrgAt, H1.out, H2.out] at this; omega
      have HFS := Lib.hid hfs; clear hfs
      have hne1 : w1.heap.size ≠ w.heap.size := by omega
      clear hlit hbox hz2 hb2 own2 hgrow hat3 ho
      go_wp2_with fail
      go_loopw [23] (fun i wi => ∃ P Q : Nat, ((i = .int .i64 0 ∧ P = p ∧ Q = q) ∨ (i = .int .i64 1 ∧ P = p + 0 ∧ Q = q) ∨ (i = .int .i64 2 ∧ P = p + 0 ∧ Q = q + 1)) ∧ Hid (wi.heap[w.heap.size]? = some (.cells #[.int .i64 (P : Int), .int .i64 (Q : Int)] 3 (0, 0))) ∧ Hid (∀ k, k ≠ w.heap.size → wi.heap[k]? = w3.heap[k]?) ∧ Below w.heap.size w wi) (fun i _ => 2 - (intOf i).toNat)
      case atStart => exact ⟨p, q, .inl ⟨rfl, rfl, rfl⟩, hz3, Lib.hid (fun _ _ => rfl), hb3⟩
      case round =>
        obtain ⟨P, Q, hpq, hz, ho, hbi⟩ := hrel
        have x1 : wr.cell? ⟨w1.heap.size, 1, none⟩ = some (.int .u64 (2 : Int)) := box_at ((ho.out _ hne1).trans hbox3.out) 1 rfl
        have y0 : wr.cell? ⟨w.heap.size, 0, none⟩ = some (.int .i64 (P : Int)) := box_at hz.out 0 rfl
        have y1 : wr.cell? ⟨w.heap.size, 1, none⟩ = some (.int .i64 (Q : Int)) := box_at hz.out 1 rfl
        have f0 := frozen_of_row _ w.heap.size 0 _ _ hz.out
        have f1 := frozen_of_row _ w.heap.size 1 _ _ hz.out
        rcases hpq with ⟨rfl, hP, hQ⟩ | ⟨rfl, hP, hQ⟩ | ⟨rfl, hP, hQ⟩
        · have HP := Lib.hid hP; have HQ := Lib.hid hQ; clear hP hQ
          have hPn : P ≤ 17 := by have := HP.out; omega
          have hQn : Q ≤ 17 := by have := HQ.out; omega
          go_wp2_with fail
          go_quiet (fail)
          go_wp2_with fail
          go_roundw
          case rel => exact ⟨P, Q, .inr (.inl ⟨rfl, by have := HP.out; omega, HQ.out⟩), hz, ho, below_drawn hbi _⟩
          case measure => simp [intOf]
        · have HP := Lib.hid hP; have HQ := Lib.hid hQ; clear hP hQ
          have hPn : P ≤ 17 := by have := HP.out; omega
          have hQn : Q ≤ 17 := by have := HQ.out; omega
          go_wp2_with fail
          go_quiet (fail)
          go_wp2_with fail
          go_roundw
          case rel => exact ⟨P, Q + 1, .inr (.inr ⟨rfl, HP.out, by have := HQ.out; omega⟩), Lib.hid (by have := heap_setCell_same (wr.drewN nq) w.heap.size 1 _ _ (.int .i64 ((Q : Int) + 1)) hz.out; simpa using this), Lib.hid (fun k hk => (Below.heap_setCell _ _ _ _ (by simpa using hk)).trans (ho.out k hk)), (below_drawn hbi _).setCell (by simp) _⟩
          case measure => simp [intOf]
        · have HP := Lib.hid hP; have HQ := Lib.hid hQ; clear hP hQ
          have hPn : P ≤ 17 := by have := HP.out; omega
          have hQn : Q ≤ 17 := by have := HQ.out; omega
          go_wp2_with fail
          go_roundw
          case rel =>
            have own4 : wr.ownsRow (w.heap.size + 1) 46 2 (.slice a3 (acc ++ [(x, 2)]).length c3) (acc ++ [(x, 2)]).length (pcs (acc ++ [(x, 2)])) := own_kept hown3 (fun k hk => ho.out k (by omega))
            exact ⟨P, Q, _, _, rfl, Lib.hid (by rw [HP.out, HQ.out]; exact hst.out), own4, hz, hbi⟩
          case measure => simp only [lenV]; have := HFS.out; omega
    · have hst := Lib.hid (hst3 rfl)
      clear hst0 hst1 hst2 hst3 HF
      have ho : Hid ((#[.int .i64 x, .int .u64 (3 : Int)] : Array Value).all (·.oneCell') = true) := Lib.hid (by kernel_rfl)
      have hws : w1.heap.size = w1.heap.size := rfl
      have own1 := own_over hown hb1
      have hz1 := Lib.hid ((hb1.block _ (show w.heap.size < wr.heap.size by omega)).trans hz0.out)
      have own2 := (own1.alloc (.cells #[.int .i64 x, .int .u64 (3 : Int)] 46)).alloc (.cells #[.int .i64 x, .int .u64 (3 : Int)] 46)
      have hbox := Lib.hid (heap_alloc2_old w1 (.cells #[.int .i64 x, .int .u64 (3 : Int)] 46) (.cells #[.int .i64 x, .int .u64 (3 : Int)] 46))
      have hlit := cells_fresh (w1.alloc (.cells #[.int .i64 x, .int .u64 (3 : Int)] 46)) [.int .i64 x, .int .u64 (3 : Int)] 46
      have hz2 := Lib.hid ((((Below.refl w1.heap.size w1).alloc (Nat.le_refl _) (.cells #[.int .i64 x, .int .u64 (3 : Int)] 46)).alloc (by simp) (.cells #[.int .i64 x, .int .u64 (3 : Int)] 46)).block w.heap.size (by have := hb1.size; omega) |>.trans hz1.out)
      have hb2 := (((hb.trans (hb1.mono hb.size)).alloc (Nat.le_trans hb.size hb1.size) (.cells #[.int .i64 x, .int .u64 (3 : Int)] 46)).alloc (by have := hb.size; have := hb1.size; simp; omega) (.cells #[.int .i64 x, .int .u64 (3 : Int)] 46))
      have hbz1 := hb1.size
      clear own1 hz1 hws
      go_wp2_with (first
        | (refine wpList_store_new w1 rfl 46 _ _ rfl 46 #[.int .i64 0, .int .u64 0] #[.int .i64 x, .int .u64 (3 : Int)] w1.heap.size rfl rfl rfl HI.out rfl ho.out ?_)
        | (at_builtin; refine wpList_append_own_at _ rfl _ _ 38 rfl (w.heap.size + 1) 46 i0 _ 2 16 Try.underlying38 hi hy0 hy1 hy2 rfl (by decide) _ _ _ rfl own2 ⟨_, 0, none⟩ 1 1 [.int .i64 x, .int .u64 (3 : Int)] rfl rfl ?c3_1 ?c3_2 ?c3_3 ?c3_4 ?c3_5 ?_))
      case c3_1 => simpa using hlit
      case c3_2 => exact ones_two _ _
      case c3_3 => unfold maxLen; omega
      case c3_4 => omega
      case c3_5 => simp; omega
      intro o3 w3 hown3 hgrow _ hat3
      have hbox3 := Lib.hid ((hgrow.block w1.heap.size (by simp; omega) (fun e => by have := (hown.lt w1.heap.size e.symm).2; omega)).trans hbox.out)
      have hz3 := Lib.hid ((hgrow.block w.heap.size (by simp; omega) (fun e => by have := (hown.lt w.heap.size e.symm).1; omega)).trans hz2.out)
      have hb3 := hb2.grown hgrow (Nat.le_trans hb.size (Nat.le_trans hbz1 (by simp; omega))) (fun j hj => by have := (hown.lt j hj).1; omega)
      have hfs : acc.length + 1 = (acc ++ [(x, 3)]).length := by simp
      rw [hfs, show pcs acc ++ [.int .i64 x, .int .u64 (3 : Int)] = pcs (acc ++ [(x, 3)]) from (pcs_snoc acc (x, 3)).symm] at hown3
      obtain ⟨ao, co, rfl⟩ := own_len hown
      obtain ⟨a3, c3, rfl⟩ := own_len hown3
      have hlen : (acc ++ [(x, 3)]).length ≤ n1 + n2 := by have := hst.out; rw [MrgAt, H1.out, H2.out] at this; omega
      have HFS := Lib.hid hfs; clear hfs
      have hne1 : w1.heap.size ≠ w.heap.size := by omega
      clear hlit hbox hz2 hb2 own2 hgrow hat3 ho
      go_wp2_with fail
      go_loopw [23] (fun i wi => ∃ P Q : Nat, ((i = .int .i64 0 ∧ P = p ∧ Q = q) ∨ (i = .int .i64 1 ∧ P = p + 1 ∧ Q = q) ∨ (i = .int .i64 2 ∧ P = p + 1 ∧ Q = q + 1)) ∧ Hid (wi.heap[w.heap.size]? = some (.cells #[.int .i64 (P : Int), .int .i64 (Q : Int)] 3 (0, 0))) ∧ Hid (∀ k, k ≠ w.heap.size → wi.heap[k]? = w3.heap[k]?) ∧ Below w.heap.size w wi) (fun i _ => 2 - (intOf i).toNat)
      case atStart => exact ⟨p, q, .inl ⟨rfl, rfl, rfl⟩, hz3, Lib.hid (fun _ _ => rfl), hb3⟩
      case round =>
        obtain ⟨P, Q, hpq, hz, ho, hbi⟩ := hrel
        have x1 : wr.cell? ⟨w1.heap.size, 1, none⟩ = some (.int .u64 (3 : Int)) := box_at ((ho.out _ hne1).trans hbox3.out) 1 rfl
        have y0 : wr.cell? ⟨w.heap.size, 0, none⟩ = some (.int .i64 (P : Int)) := box_at hz.out 0 rfl
        have y1 : wr.cell? ⟨w.heap.size, 1, none⟩ = some (.int .i64 (Q : Int)) := box_at hz.out 1 rfl
        have f0 := frozen_of_row _ w.heap.size 0 _ _ hz.out
        have f1 := frozen_of_row _ w.heap.size 1 _ _ hz.out
        rcases hpq with ⟨rfl, hP, hQ⟩ | ⟨rfl, hP, hQ⟩ | ⟨rfl, hP, hQ⟩
        · have HP := Lib.hid hP; have HQ := Lib.hid hQ; clear hP hQ
          have hPn : P ≤ 17 := by have := HP.out; omega
          have hQn : Q ≤ 17 := by have := HQ.out; omega
          go_wp2_with fail
          go_quiet (fail)
          go_wp2_with fail
          go_roundw
          case rel => exact ⟨P + 1, Q, .inr (.inl ⟨rfl, by have := HP.out; omega, HQ.out⟩), Lib.hid (by have := heap_setCell_same (wr.drewN nq) w.heap.size 0 _ _ (.int .i64 ((P : Int) + 1)) hz.out; simpa using this), Lib.hid (fun k hk => (Below.heap_setCell _ _ _ _ (by simpa using hk)).trans (ho.out k hk)), (below_drawn hbi _).setCell (by simp) _⟩
          case measure => simp [intOf]
        · have HP := Lib.hid hP; have HQ := Lib.hid hQ; clear hP hQ
          have hPn : P ≤ 17 := by have := HP.out; omega
          have hQn : Q ≤ 17 := by have := HQ.out; omega
          go_wp2_with fail
          go_quiet (fail)
          go_wp2_with fail
          go_roundw
          case rel => exact ⟨P, Q + 1, .inr (.inr ⟨rfl, HP.out, by have := HQ.out; omega⟩), Lib.hid (by have := heap_setCell_same (wr.drewN nq) w.heap.size 1 _ _ (.int .i64 ((Q : Int) + 1)) hz.out; simpa using this), Lib.hid (fun k hk => (Below.heap_setCell _ _ _ _ (by simpa using hk)).trans (ho.out k hk)), (below_drawn hbi _).setCell (by simp) _⟩
          case measure => simp [intOf]
        · have HP := Lib.hid hP; have HQ := Lib.hid hQ; clear hP hQ
          have hPn : P ≤ 17 := by have := HP.out; omega
          have hQn : Q ≤ 17 := by have := HQ.out; omega
          go_wp2_with fail
          go_roundw
          case rel =>
            have own4 : wr.ownsRow (w.heap.size + 1) 46 2 (.slice a3 (acc ++ [(x, 3)]).length c3) (acc ++ [(x, 3)]).length (pcs (acc ++ [(x, 3)])) := own_kept hown3 (fun k hk => ho.out k (by omega))
            exact ⟨P, Q, _, _, rfl, Lib.hid (by rw [HP.out, HQ.out]; exact hst.out), own4, hz, hbi⟩
          case measure => simp only [lenV]; have := HFS.out; omega
end Go.Proofs.Ytmionaamaojjbaa
