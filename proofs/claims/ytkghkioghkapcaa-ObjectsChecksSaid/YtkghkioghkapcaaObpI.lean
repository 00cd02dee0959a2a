/-
  Merged: ObpI, ObpJ, ObpK.
-/
import Derived.Test.YtkghkioghkapcaaObpH
import Derived.RangeFuncNested
import Derived.RangeFuncBound
import Derived.RangeFuncCalls
import Derived.RangeFuncLeaves
import Derived.RangeFuncFrom
import Derived.Shelf.RegionOpen
import Derived.OwnWalkIn
import Derived.TacticsInMore
import Derived.LoopNIn
import Derived.LoopIn
namespace Go.Proofs.Ytkghkioghkapcaa
section
/-! Layer 7, the program, by contract: the iterator over a schema's tables. -/
open Go.RowKit Go.Sort Go.Shelf

attribute [local go_sem] Oper.semAt_some
set_option linter.unusedVariables false

/-- Where a table's two lists lie. -/
abbrev Lies := Nat → (Option Addr × Nat) × (Option Addr × Nat)
abbrev vcOf (f : Lies) (k : Nat) (t : Tab) : Value := .slice (f k).1.1 t.cols.length (f k).1.2
abbrev vrOf (f : Lies) (k : Nat) (t : Tab) : Value := .slice (f k).2.1 t.rules.length (f k).2.2
/-- The tables' cells, each table's two lists by the function f. -/
def TabsAt (w : World) (S : Nat → Prop) (vt : Value) (ts : List Tab) (f : Lies) : Prop :=
  ∃ a c, vt = .slice a ts.length c ∧ ts.length ≤ c ∧ c ≤ maxLen ∧ ∀ (k : Nat) (h : k < ts.length), ∃ b o, a = some ⟨b, o, none⟩ ∧ S b ∧ Lst w S colP 3 (vcOf f k ts[k]) ts[k].cols ∧ Lst w S (rulP w S) 8 (vrOf f k ts[k]) ts[k].rules ∧
    w.cell? ⟨b, o + k * 5, none⟩ = some (.string ts[k].schema) ∧ w.cell? ⟨b, o + k * 5 + 1, none⟩ = some (.string ts[k].name) ∧ w.cell? ⟨b, o + k * 5 + 2, none⟩ = some (.string ts[k].owner) ∧ w.cell? ⟨b, o + k * 5 + 3, none⟩ = some (vcOf f k ts[k]) ∧ w.cell? ⟨b, o + k * 5 + 4, none⟩ = some (vrOf f k ts[k])
theorem tabs_at {w : World} {S : Nat → Prop} {vt : Value} {ts : List Tab} (h : Lst w S (tabP w S) 5 vt ts) : ∃ f, TabsAt w S vt ts f := by
  obtain ⟨a, c, rfl, hc, hm⟩ := h.form
  have hall : ∀ (k : Nat) (hk : k < ts.length), ∃ v : (Option Addr × Nat) × (Option Addr × Nat), ∃ b o, a = some ⟨b, o, none⟩ ∧ S b ∧ Lst w S colP 3 (.slice v.1.1 ts[k].cols.length v.1.2) ts[k].cols ∧ Lst w S (rulP w S) 8 (.slice v.2.1 ts[k].rules.length v.2.2) ts[k].rules ∧
      w.cell? ⟨b, o + k * 5, none⟩ = some (.string ts[k].schema) ∧ w.cell? ⟨b, o + k * 5 + 1, none⟩ = some (.string ts[k].name) ∧ w.cell? ⟨b, o + k * 5 + 2, none⟩ = some (.string ts[k].owner) ∧ w.cell? ⟨b, o + k * 5 + 3, none⟩ = some (.slice v.1.1 ts[k].cols.length v.1.2) ∧ w.cell? ⟨b, o + k * 5 + 4, none⟩ = some (.slice v.2.1 ts[k].rules.length v.2.2) := by
    intro k hk
    obtain ⟨b, o, x, ha, hb, ⟨vc, vr, rfl, hvc, hvr⟩, hcl⟩ := h.at hk
    obtain ⟨a1, c1, rfl, _, _⟩ := hvc.form
    obtain ⟨a2, c2, rfl, _, _⟩ := hvr.form
    exact ⟨((a1, c1), (a2, c2)), b, o, ha, hb, hvc, hvr, hcl 0 _ rfl, hcl 1 _ rfl, hcl 2 _ rfl, hcl 3 _ rfl, hcl 4 _ rfl⟩
  refine ⟨fun k => if hk : k < ts.length then (hall k hk).choose else ((none, 0), (none, 0)), a, c, rfl, hc, hm, fun k hk => ?_⟩
  have := (hall k hk).choose_spec
  simp only [vcOf, vrOf, dif_pos hk]
  exact this
theorem TabsAt.keep {w w' : World} {S S' : Nat → Prop} {vt : Value} {ts : List Tab} {f : Lies} (h : TabsAt w S vt ts f) (hS : ∀ k, S k → S' k) (hk : Keeps S w w') : TabsAt w' S' vt ts f := by
  obtain ⟨a, c, h1, h2, h3, h4⟩ := h
  refine ⟨a, c, h1, h2, h3, fun k hk' => ?_⟩
  obtain ⟨b, o, ha, hb, g1, g2, c0, c1, c2, c3, c4⟩ := h4 k hk'
  exact ⟨b, o, ha, hS b hb, cols_keep g1 hS hk, ruls_keep g2 hS hk, hk.cell c0 hb, hk.cell c1 hb, hk.cell c2 hb, hk.cell c3 hb, hk.cell c4 hb⟩
/-- A place of a table of the schema s. -/
abbrev TIx (ts : List Tab) (s : ByteArray) := { k : Nat // ∃ h : k < ts.length, eqT ts[k].schema s = true }
def encT (ts : List Tab) (s : ByteArray) (f : Lies) (x : TIx ts s) : Array Value :=
  #[.int .i64 (x.1 : Int), .agg #[.string (ts[x.1]'x.2.1).schema, .string (ts[x.1]'x.2.1).name, .string (ts[x.1]'x.2.1).owner, vcOf f x.1 (ts[x.1]'x.2.1), vrOf f x.1 (ts[x.1]'x.2.1)]]
/-- Those among the first k. -/
def uptoT (ts : List Tab) (s : ByteArray) (k : Nat) : List (TIx ts s) := (List.range k).filterMap fun j => if h : ∃ h : j < ts.length, eqT ts[j].schema s = true then some ⟨j, h⟩ else none
theorem uptoT_hit {ts : List Tab} {s : ByteArray} {k : Nat} (h : k < ts.length) (hs : eqT ts[k].schema s = true) : uptoT ts s (k + 1) = uptoT ts s k ++ [⟨k, h, hs⟩] := by
  unfold uptoT
  rw [List.range_succ, List.filterMap_append]
  congr 1
  simp only [List.filterMap_cons, List.filterMap_nil]
  rw [dif_pos ⟨h, hs⟩]
theorem uptoT_miss {ts : List Tab} {s : ByteArray} {k : Nat} (h : k < ts.length) (hs : eqT ts[k].schema s = false) : uptoT ts s (k + 1) = uptoT ts s k := by
  unfold uptoT
  rw [List.range_succ, List.filterMap_append]
  simp only [List.filterMap_cons, List.filterMap_nil]
  rw [dif_neg (by rintro ⟨_, h2⟩; rw [hs] at h2; cases h2), List.append_nil]
theorem uptoT_len (ts : List Tab) (s : ByteArray) (k : Nat) : (uptoT ts s k).length ≤ k := by
  unfold uptoT
  exact Nat.le_trans (List.length_filterMap_le _ _) (by simp)
theorem uptoT_count (ts : List Tab) (s : ByteArray) : ∀ k, k ≤ ts.length → (uptoT ts s k).length = tabN (ts.take k) s
  | 0, _ => rfl
  | k + 1, h => by
    have ih := uptoT_count ts s k (by omega)
    cases hs : eqT ts[k].schema s with
    | true => rw [uptoT_hit (by omega) hs, List.length_append, ih, tabN_in (by omega) hs]; rfl
    | false => rw [uptoT_miss (by omega) hs, ih, tabN_out (by omega) hs]
theorem mem_uptoT {ts : List Tab} {s : ByteArray} {k : Nat} {x : TIx ts s} : x ∈ uptoT ts s k ↔ x.1 < k := by
  unfold uptoT
  rw [List.mem_filterMap]
  constructor
  · rintro ⟨j, hj, he⟩
    split at he
    · cases he; simpa using hj
    · cases he
  · intro h
    exact ⟨x.1, by simpa using h, by rw [dif_pos x.2]⟩

set_option maxRecDepth 100000 in
set_option maxHeartbeats 4000000 in
theorem tables1_in (F : Fence) (n : Nat) (hf : F.fn 138) (hro : F.round = none) (hn : 1 ≤ n) (l Bo Bs : Nat) (S : Nat → Prop) (ts : List Tab) (s : ByteArray) (vt : Value) (f : Lies) (J Jx : List (TIx ts s) → World → Prop)
    (hSo : S Bo) (hSs : S Bs)
    (hY : ∀ pre x W, J pre W → pre.length < ts.length → YieldAt F (n - 1) Try.prog l (encT ts s f x) W fun e W' =>
      (e = .returned (.bool true) ∧ J (pre ++ [x]) W' ∧ Keeps S W W') ∨ (e = .returned (.bool false) ∧ Jx (pre ++ [x]) W'))
    (W : World) (hJ : AbidesFrom W.heap.size J) (hbo : W.cell? ⟨Bo, 1, none⟩ = some vt) (hbs : W.cell? ⟨Bs, 0, none⟩ = some (.string s)) (ht : TabsAt W S vt ts f) (h0 : J [] W) :
    CallsIn F n Try.prog 138 #[.func (.yield l) #[] #[], .pointer (some ⟨Bo, 0, none⟩), .pointer (some ⟨Bs, 0, none⟩)] W fun e W' => (∃ v, e = .returned v) ∧
      ((∃ ys, ys = uptoT ts s ts.length ∧ J ys W') ∨ (∃ pre, (∃ k, k ≤ ts.length ∧ pre = uptoT ts s k) ∧ Jx pre W')) := by
  obtain ⟨a, c, rfl, hc, hm, hat⟩ := ht
  unfold maxLen at hm
  obtain ⟨m, hml⟩ : ∃ m, ts.length = m := ⟨_, rfl⟩
  have HML := Lib.hid hml
  have HAT := Lib.hid hat
  have HY := Lib.hid hY
  have HJ := Lib.hid hJ
  rw [hml] at hc hbo ⊢
  clear hat hY hml hJ
  refine callsIn_of_wp Try.func138 rfl hf ?_ hro
  simp only [Try.ntmps138, List.size_toArray, List.length_cons, List.length_nil, Nat.reduceAdd, Nat.reduceSub, Array.replicate_succ, Array.replicate_zero, List.push_toArray, List.append_toArray, List.nil_append, List.cons_append]
  gi_wp2
  gi_loopw [4, 5, 9] (fun _ _ i wr => ∃ k : Nat, k ≤ m ∧ i = .int .i64 k ∧ Hid (J (uptoT ts s k) wr ∧ Keeps S W wr)) (fun _ _ i _ => m - (intOf i).toNat)
  case atStart => exact ⟨0, Nat.zero_le _, rfl, Lib.hid ⟨h0, Keeps.refl⟩⟩
  case round =>
    obtain ⟨k, hk, rfl, HR⟩ := hrel
    by_cases hlt : k < m
    · have lk : k < ts.length := by rw [HML.out]; exact hlt
      obtain ⟨b, o, rfl, hb, _, _, c0, c1, c2, c3, c4⟩ := HAT.out k lk
      have hkw := HR.out.2
      have r0 := hkw.cell (p := ⟨b, o + k * 5, none⟩) c0 hb
      have r1 := hkw.cell (p := ⟨b, o + k * 5 + 1, none⟩) c1 hb
      have r2 := hkw.cell (p := ⟨b, o + k * 5 + 2, none⟩) c2 hb
      have r3 := hkw.cell (p := ⟨b, o + k * 5 + 3, none⟩) c3 hb
      have r4 := hkw.cell (p := ⟨b, o + k * 5 + 4, none⟩) c4 hb
      have rs := hkw.cell (p := ⟨Bs, 0, none⟩) hbs hSs
      have hbsz := World.block_lt_of_cell? wr _ rs
      have k0 : (0 : Int) ≤ (k : Int) := by omega
      have k1 : (k : Int) < (m : Int) := by omega
      have HJW := Lib.hid (fun o => HJ.out (uptoT ts s k) wr (wr.alloc o) none HR.out.1 (World.grownBy_alloc wr o none) fun r e => by cases e)
      have hka := fun o => hkw.alloc o
      have HKA := Lib.hid hka
      have HHIT := Lib.hid (fun h => uptoT_hit (s := s) lk h)
      have HMISS := Lib.hid (fun h => uptoT_miss (s := s) lk h)
      have HYK := Lib.hid (fun h W1 (hj : J (uptoT ts s k) W1) => HY.out (uptoT ts s k) ⟨k, lk, h⟩ W1 hj (by have := uptoT_len ts s k; rw [HML.out]; omega))
      clear c0 c1 c2 c3 c4 hka hkw
      cases hq : eqT ts[k].schema s with
      | true =>
        obtain ⟨fn, tmps, assign, body, hy, hR⟩ := HYK.out hq _ (HJW.out (.cells #[.string ts[k].schema, .string ts[k].name, .string ts[k].owner, vcOf f k ts[k], vrOf f k ts[k]] 35))
        have HNX := Lib.hid (HHIT.out hq)
        unfold encT at hy
        dsimp only at hy
        have e1 : (ts[k].schema.toList == s.toList) = true := hq
        have HRR := Lib.hid hR
        clear hR HHIT HMISS HYK
        gi_wp2
        refine HRR.out.mono ?_
        rintro e W3 (⟨rfl, hJ3, hk3⟩ | ⟨rfl, hJx3⟩)
        · have HN := Lib.hid (show J (uptoT ts s (k + 1)) W3 ∧ Keeps S W W3 from ⟨by rw [HNX.out]; exact hJ3, (HKA.out _).trans hk3⟩)
          clear hJ3 hk3
          gi_wp2
          go_roundw
          case rel => exact ⟨k + 1, by omega, by go_num, HN⟩
          case measure => simp [intOf]; omega
        · have HN := Lib.hid (show Jx (uptoT ts s (k + 1)) W3 from by rw [HNX.out]; exact hJx3)
          clear hJx3
          gi_wp2
          refine bodyPost_ret (results_none rfl _ _ _) rfl ?_
          exact ⟨⟨_, rfl⟩, .inr ⟨_, ⟨k + 1, by omega, rfl⟩, HN.out⟩⟩
      | false =>
        have HN := Lib.hid (show ∀ o, J (uptoT ts s (k + 1)) (wr.alloc o) ∧ Keeps S W (wr.alloc o) from fun o => ⟨by rw [HMISS.out hq]; exact HJW.out o, HKA.out o⟩)
        have e1 : (ts[k].schema.toList == s.toList) = false := hq
        clear hq HHIT HMISS HYK HJW HKA
        gi_wp2
        refine ⟨fun _ h => (by cases h), ?_⟩
        gi_wp2
        go_roundw
        case rel => exact ⟨k + 1, by omega, by go_num, Lib.hid (HN.out _)⟩
        case measure => simp [intOf]; omega
    · obtain rfl : k = m := by omega
      gi_wp2
      go_end0
      exact ⟨⟨_, rfl⟩, .inl ⟨_, rfl, HR.out.1⟩⟩
theorem tables_stops (F : Fence) (n : Nat) (hf : F.fn 138) (hro : F.round = none) (hn : 1 ≤ n) (Bo Bs : Nat) (S : Nat → Prop) (ts : List Tab) (s : ByteArray) (vt : Value) (f : Lies) (hSo : S Bo) (hSs : S Bs)
    (w : World) (hbo : w.cell? ⟨Bo, 1, none⟩ = some vt) (hbs : w.cell? ⟨Bs, 0, none⟩ = some (.string s)) (ht : TabsAt w S vt ts f) (hSw : ∀ k, S k → k < w.heap.size) :
    SeqStopsK F n Try.prog 138 #[.pointer (some ⟨Bo, 0, none⟩), .pointer (some ⟨Bs, 0, none⟩)] (encT ts s f) (Keeps S) (fun ys => ys = uptoT ts s ts.length) (fun pre => ∃ k, k ≤ ts.length ∧ pre = uptoT ts s k) ts.length w := fun l J Jx W hW hJ _ hY h0 => by
  have hk : Keeps S w W := Keeps.of_below hW hSw
  exact tables1_in F n hf hro hn l Bo Bs S ts s vt f J Jx hSo hSs hY W hJ (hk.cell hbo hSo) (hk.cell hbs hSs) (ht.keep (fun _ h => h) hk) h0
theorem tables_in (F : Fence) (n : Nat) (hf : F.fn 113) (hro : F.round = none) (vs vt : Value) (s : ByteArray) (w : World) :
    CallsIn F n Try.prog 113 #[.agg #[vs, vt], .string s] w fun e w' => e = .returned (.func (.func 138) #[] #[.pointer (some ⟨w.heap.size, 0, none⟩), .pointer (some ⟨w.heap.size + 1, 0, none⟩)]) ∧
      w' = (w.alloc (.cells #[vs, vt] 26)).alloc (.cells #[.string s] 9) := by
  refine callsIn_of_wp Try.func113 rfl hf ?_ hro
  simp only [Try.ntmps113, List.size_toArray, List.length_cons, List.length_nil, Nat.reduceAdd, Nat.reduceSub, Array.replicate_succ, Array.replicate_zero, List.push_toArray, List.append_toArray, List.nil_append, List.cons_append]
  gi_wp2
  go_ret
  exact ⟨rfl, rfl⟩
end

section
/-! Layer 7, the program, by contract: countTables, tablePlace. -/
open Go.RowKit Go.Sort Go.Shelf

attribute [local go_sem] Oper.semAt_some

theorem fold_two (p q : Nat) (T : Array Value) (a b : Value) : Array.foldl (fun t x => t.setIfInBounds x.1 x.2) T ((#[p, q] : Array Nat).zip #[a, b]) = (T.setIfInBounds p a).setIfInBounds q b := by simp
theorem keeps_put {S : Nat → Prop} {B : Nat} (hS : ∀ k, S k → k < B) (W : World) (l : Nat) (o o' : Obj) (hl : B ≤ l) (_ : W.heap[l]? = some o) : Keeps S W (W.putObj l o') :=
  Keeps.of_grown (row := some l) (grownBy_putObj' W l o') fun k e hs => by
    cases e
    have := hS _ hs
    omega

theorem boxes4p (w : World) (a b c d : Obj) : let W := ((((w.alloc a).alloc b).alloc c).alloc d)
    Below w.heap.size w W ∧ W.heap[w.heap.size]? = some a ∧ W.heap[w.heap.size + 1]? = some b ∧ W.heap[w.heap.size + 1 + 1]? = some c ∧ W.heap[w.heap.size + 1 + 1 + 1]? = some d ∧ W.heap.size = w.heap.size + 1 + 1 + 1 + 1 := by
  have n1 : (w.alloc a).heap.size = w.heap.size + 1 := by simp
  have n2 : ((w.alloc a).alloc b).heap.size = w.heap.size + 1 + 1 := by simp
  have n3 : (((w.alloc a).alloc b).alloc c).heap.size = w.heap.size + 1 + 1 + 1 := by simp
  have r0 := heap_alloc_new w a
  have r1 := heap_alloc_new (w.alloc a) b
  have r2 := heap_alloc_new ((w.alloc a).alloc b) c
  have r3 := heap_alloc_new (((w.alloc a).alloc b).alloc c) d
  rw [n1] at r1
  rw [n2] at r2
  rw [n3] at r3
  refine ⟨(((Below.refl _ w).alloc (Nat.le_refl _) _).alloc (by simp) _ |>.alloc (by first | (simp; done) | (simp; omega)) _).alloc (by first | (simp; done) | (simp; omega)) _, ?_, ?_, ?_, r3, by simp⟩
  · rw [Below.heap_alloc _ _ _ (by first | (simp; done) | (simp; omega)), Below.heap_alloc _ _ _ (by first | (simp; done) | (simp; omega)), Below.heap_alloc _ _ _ (by simp)]; exact r0
  · rw [Below.heap_alloc _ _ _ (by first | (simp; done) | (simp; omega)), Below.heap_alloc _ _ _ (by simp)]; exact r1
  · rw [Below.heap_alloc _ _ _ (by simp)]; exact r2

set_option maxRecDepth 100000 in
set_option maxHeartbeats 4000000 in
theorem count_in (F : Fence) (n : Nat) (hf : F.fn 69) (hf1 : F.fn 113) (hf2 : F.fn 138) (hro : F.round = none) (hn : 3 ≤ n) (B : Nat) (o : Objs) (vs vt : Value) (s : ByteArray) (w : World) (ho : objP w (· < B) [vs, vt] o) (hB : B ≤ w.heap.size) :
    CallsIn F n Try.prog 69 #[.agg #[vs, vt], .string s] w fun e w' => e = .returned (.int .i64 (tabN o.tables s : Nat)) ∧ Below w.heap.size w w' := by
  have h1 : 1 ≤ n := by omega
  obtain ⟨_, _, hv, _, hts⟩ := ho
  simp only [List.cons.injEq, and_true] at hv
  obtain ⟨rfl, rfl⟩ := hv
  obtain ⟨f, hft⟩ := tabs_at hts
  obtain ⟨ta, tc, rfl, htc, htm⟩ := hts.form
  refine callsIn_of_wp_marks Try.func69 rfl hf ?_ hro
  simp only [Try.ntmps69, List.size_toArray, List.length_cons, List.length_nil, Nat.reduceAdd, Nat.reduceSub, Array.replicate_succ, Array.replicate_zero, List.push_toArray, List.append_toArray, List.nil_append, List.cons_append]
  gi_wp2_with (gi_at_call 113; refine (tables_in F (n - 1) hf1 hro _ _ _ _).mono ?_; rintro e w' ⟨rfl, rfl⟩)
  obtain ⟨hb0, q0, q1, q2, q3, hsz⟩ := boxes4p w (.cells #[vs, .slice ta o.tables.length tc] 26) (.cells #[.int .i64 0] 3) (.cells #[vs, .slice ta o.tables.length tc] 26) (.cells #[.string s] 9)
  generalize World.alloc (World.alloc (World.alloc (World.alloc w _) _) _) _ = w1 at *
  have hSw : ∀ k, (k < w1.heap.size ∧ k ≠ w.heap.size + 1) → k < w1.heap.size := fun k h => h.1
  have hkw : Keeps (· < B) w w1 := Keeps.of_below hb0 fun j hj => Nat.lt_of_lt_of_le hj hB
  have hseq := tables_stops F (n - 1) hf2 hro (by omega) (w.heap.size + 1 + 1) (w.heap.size + 1 + 1 + 1) (fun k => k < w1.heap.size ∧ k ≠ w.heap.size + 1) o.tables s (.slice ta o.tables.length tc) f (by omega) (by omega) w1 (box_at q2 1 rfl) (box_at q3 0 rfl)
    (hft.keep (fun k hk => ⟨by omega, by omega⟩) hkw) hSw
  have c1 := box_at q1 0 rfl
  have f1 := frozen_of_row _ _ 0 _ _ q1
  have hszle : w.heap.size ≤ w1.heap.size := by omega
  obtain ⟨m, hml⟩ : ∃ m, o.tables.length = m := ⟨_, rfl⟩
  have hmb : m ≤ 9223372036854775807 := by rw [← hml]; unfold maxLen at htm; omega
  refine wpIn_rangeFunc_ownF hro h1 (gf := 138) (lb := #[.pointer (some ⟨w.heap.size + 1 + 1, 0, none⟩), .pointer (some ⟨w.heap.size + 1 + 1 + 1, 0, none⟩)]) rfl hf2 (enters_of Try.func138 (by kernel_rfl) rfl)
    hseq (fun h k => h.trans k) (fun W l o o' hl h _ _ => keeps_put hSw W l o o' hl h) (Below.refl _ _) (fun _ => rfl)
    (fun pre W => (W.cell? ⟨w.heap.size + 1, 0, none⟩ = some (.int .i64 (pre.length : Nat)) ∧ W.frozen? ⟨w.heap.size + 1, 0, none⟩ = false) ∧ Below w.heap.size w W)
    (fun _ _ _ => False)
    (OwnFrom.and (Own.from (fun s A B row hs hg hr => ⟨cell_kept hs.1 hg hr, (frozen_kept hs.1 hg hr).trans hs.2⟩) _) (ownFrom_below (Nat.le_refl _) hszle))
    (fun _ _ _ _ _ hs _ _ => hs)
    ⟨⟨c1, f1⟩, hb0⟩
    (fun x => { tmps := #[.agg #[vs, .slice ta o.tables.length tc], .string s, .pointer (some ⟨w.heap.size, 0, none⟩), undef, .int .i64 0, .pointer (some ⟨w.heap.size + 1, 0, none⟩), .agg #[vs, .slice ta o.tables.length tc], .string s,
      .func (.func 138) #[] #[.pointer (some ⟨w.heap.size + 1 + 1, 0, none⟩), .pointer (some ⟨w.heap.size + 1 + 1 + 1, 0, none⟩)], .int .i64 (x.1 : Int), .agg #[.string (o.tables[x.1]'x.2.1).schema, .string (o.tables[x.1]'x.2.1).name, .string (o.tables[x.1]'x.2.1).owner, vcOf f x.1 (o.tables[x.1]'x.2.1), vrOf f x.1 (o.tables[x.1]'x.2.1)], undef, undef, undef], defers := [] }) ?assign ?body ?done ?stop
  case assign =>
    intro l x W K hK
    unfold encT
    gi_wp2
    rw [fold_two]
    exact hK
  case body =>
    rintro l pre x W ⟨⟨hc, hf⟩, hB⟩ hlen
    have hadd : (pre.length : Int) + 1 ≤ 9223372036854775807 := by omega
    clear hseq hsz q0 q1 q2 q3 c1 f1 hkw hszle hml hft hts hlen hb0 hSw
    gi_wp2
    exact ⟨KeepsOthers.setCell _ _ _, Keeps.refl.setCell (fun h => h.2 rfl) _, ⟨by rw [List.length_append, List.length_singleton]; exact World.cell?_setCell_same' _ _ _ (by rw [hc]; rfl), by rw [World.frozen?_setCell]; exact hf⟩, hB.setCell (p := ⟨w.heap.size + 1, 0, none⟩) (by simp) _⟩
  case done =>
    rintro D ys W hD rfl ⟨⟨hc, _⟩, hB⟩ hK
    rw [uptoT_count _ _ _ (Nat.le_refl _), List.take_length] at hc
    gi_wp2
    refine ⟨by simp, .inl ⟨_, _, rfl, run_takeDeferred hK, ?_⟩⟩
    exact ⟨_, results_tmp rfl _ _ _, rfl, hB.trans (belowK_b (w := w) (Nat.le_refl _) W D _ _ (by omega) hK rfl rfl)⟩
  case stop =>
    rintro D c pre W _ _ h _
    exact h.elim
end

section
/-! Layer 7, the program, by contract: tablePlace. -/
open Go.RowKit Go.Sort Go.Shelf

attribute [local go_sem] Oper.semAt_some

theorem cell_laid {W : World} {a : Addr} {v : Value} (o : Obj) (h : W.cell? a = some v) : (W.alloc o).cell? a = some v := cell_kept h (World.grownBy_alloc W o none) (fun r e => by cases e)
theorem frozen_laid {W : World} {a : Addr} {v : Value} (o : Obj) (h : W.cell? a = some v) (hf : W.frozen? a = false) : (W.alloc o).frozen? a = false := (frozen_kept h (World.grownBy_alloc W o none) (fun r e => by cases e)).trans hf
theorem boxes5p (w : World) (a b c d e : Obj) : let W := (((((w.alloc a).alloc b).alloc c).alloc d).alloc e)
    Below w.heap.size w W ∧ W.heap[w.heap.size]? = some a ∧ W.heap[w.heap.size + 1]? = some b ∧ W.heap[w.heap.size + 1 + 1]? = some c ∧ W.heap[w.heap.size + 1 + 1 + 1]? = some d ∧ W.heap[w.heap.size + 1 + 1 + 1 + 1]? = some e ∧ W.heap.size = w.heap.size + 1 + 1 + 1 + 1 + 1 := by
  obtain ⟨h1, h2, h3, h4, h5, h6⟩ := boxes4p w a b c d
  have h7 := heap_alloc_new ((((w.alloc a).alloc b).alloc c).alloc d) e
  rw [h6] at h7
  have hk : ∀ k, k < w.heap.size + 1 + 1 + 1 + 1 → (((((w.alloc a).alloc b).alloc c).alloc d).alloc e).heap[k]? = ((((w.alloc a).alloc b).alloc c).alloc d).heap[k]? := fun k hk => Below.heap_alloc _ _ _ (by rw [h6]; exact hk)
  refine ⟨h1.alloc (by rw [h6]; omega) e, ?_, ?_, ?_, ?_, h7, by rw [World.size_alloc, h6]⟩
  · rw [hk _ (by omega)]; exact h2
  · rw [hk _ (by omega)]; exact h3
  · rw [hk _ (by omega)]; exact h4
  · rw [hk _ (by omega)]; exact h5
theorem place_hit {ts : List Tab} {s t : ByteArray} {pre : List (TIx ts s)} {x : TIx ts s} {k : Nat} (h1 : pre ++ [x] = uptoT ts s k) (h2 : ∀ y ∈ pre, eqT (ts[y.1]'y.2.1).name t = false) (h3 : eqT (ts[x.1]'x.2.1).name t = true) : tabI ts s t = x.1 := by
  refine idxI_at x.2.1 (fun i hi hk => ?_) (by rw [x.2.2, h3]; rfl)
  cases hs : eqT ts[i].schema s with
  | false => rfl
  | true =>
    have hx : x ∈ uptoT ts s k := by rw [← h1]; simp
    have hy : (⟨i, hi, hs⟩ : TIx ts s) ∈ uptoT ts s k := mem_uptoT.2 (Nat.lt_trans hk (mem_uptoT.1 hx))
    rw [← h1] at hy
    rcases List.mem_append.1 hy with h | h
    · rw [h2 _ h]; rfl
    · have := congrArg Subtype.val (List.mem_singleton.1 h)
      simp only at this
      omega
theorem place_none {ts : List Tab} {s t : ByteArray} (h : ∀ y ∈ uptoT ts s ts.length, eqT (ts[y.1]'y.2.1).name t = false) : tabI ts s t = -1 := by
  refine idxI_no fun x hx => ?_
  obtain ⟨i, hi, rfl⟩ := List.mem_iff_getElem.1 hx
  cases hs : eqT ts[i].schema s with
  | false => rfl
  | true => rw [h ⟨i, hi, hs⟩ (mem_uptoT.2 hi)]; rfl

set_option maxRecDepth 100000 in
set_option maxHeartbeats 4000000 in
theorem place_in (F : Fence) (n : Nat) (hf : F.fn 55) (hf1 : F.fn 113) (hf2 : F.fn 138) (hro : F.round = none) (hn : 3 ≤ n) (B : Nat) (o : Objs) (vs vt : Value) (s t : ByteArray) (w : World) (ho : objP w (· < B) [vs, vt] o) (hB : B ≤ w.heap.size) :
    CallsIn F n Try.prog 55 #[.agg #[vs, vt], .string s, .string t] w fun e w' => e = .returned (.int .i64 (tabI o.tables s t)) ∧ Below w.heap.size w w' := by
  have h1 : 1 ≤ n := by omega
  obtain ⟨_, _, hv, _, hts⟩ := ho
  simp only [List.cons.injEq, and_true] at hv
  obtain ⟨rfl, rfl⟩ := hv
  obtain ⟨f, hft⟩ := tabs_at hts
  obtain ⟨ta, tc, rfl, htc, htm⟩ := hts.form
  refine callsIn_of_wp_marks Try.func55 rfl hf ?_ hro
  simp only [Try.ntmps55, List.size_toArray, List.length_cons, List.length_nil, Nat.reduceAdd, Nat.reduceSub, Array.replicate_succ, Array.replicate_zero, List.push_toArray, List.append_toArray, List.nil_append, List.cons_append]
  gi_wp2_with (gi_at_call 113; refine (tables_in F (n - 1) hf1 hro _ _ _ _).mono ?_; rintro e w' ⟨rfl, rfl⟩)
  obtain ⟨hb0, q0, q1, q2, q3, q4, hsz⟩ := boxes5p w (.cells #[vs, .slice ta o.tables.length tc] 26) (.cells #[.string t] 9) (.cells #[.int .i64 0] 3) (.cells #[vs, .slice ta o.tables.length tc] 26) (.cells #[.string s] 9)
  generalize World.alloc (World.alloc (World.alloc (World.alloc (World.alloc w _) _) _) _) _ = w1 at *
  have hSw : ∀ k, (k < w1.heap.size ∧ k ≠ w.heap.size + 1 + 1) → k < w1.heap.size := fun k h => h.1
  have hkw : Keeps (· < B) w w1 := Keeps.of_below hb0 fun j hj => Nat.lt_of_lt_of_le hj hB
  have hseq := tables_stops F (n - 1) hf2 hro (by omega) (w.heap.size + 1 + 1 + 1) (w.heap.size + 1 + 1 + 1 + 1) (fun k => k < w1.heap.size ∧ k ≠ w.heap.size + 1 + 1) o.tables s (.slice ta o.tables.length tc) f (by omega) (by omega) w1 (box_at q3 1 rfl) (box_at q4 0 rfl)
    (hft.keep (fun k hk => ⟨by omega, by omega⟩) hkw) hSw
  have c0 := box_at q1 0 rfl
  have c1 := box_at q2 0 rfl
  have f1 := frozen_of_row _ _ 0 _ _ q2
  have hszle : w.heap.size ≤ w1.heap.size := by omega
  have hlt1 : w.heap.size + 1 < w1.heap.size := by omega
  have hlt2 : w.heap.size + 1 + 1 < w1.heap.size := by omega
  have hgone := fun (pre : List (TIx o.tables s)) (x : TIx o.tables s) (k : Nat) (h1 : pre ++ [x] = uptoT o.tables s k) h2 h3 => place_hit (t := t) h1 h2 h3
  have hnone := place_none (s := s) (t := t) (ts := o.tables)
  clear hsz q0 q1 q2 q3 q4 hkw hft
  refine wpIn_rangeFunc_ownH hro h1 (gf := 138) (lb := #[.pointer (some ⟨w.heap.size + 1 + 1 + 1, 0, none⟩), .pointer (some ⟨w.heap.size + 1 + 1 + 1 + 1, 0, none⟩)]) rfl hf2 (enters_of Try.func138 (by kernel_rfl) rfl)
    hseq (fun h k => h.trans k) (fun W l o o' hl h _ _ => keeps_put hSw W l o o' hl h) (Below.refl _ _) (fun _ => rfl)
    (fun pre W => ((∀ y ∈ pre, eqT (o.tables[y.1]'y.2.1).name t = false) ∧ W.cell? ⟨w.heap.size + 1, 0, none⟩ = some (.string t) ∧ W.cell? ⟨w.heap.size + 1 + 1, 0, none⟩ = some (.int .i64 0) ∧ W.frozen? ⟨w.heap.size + 1 + 1, 0, none⟩ = false) ∧ Below w.heap.size w1 W)
    (fun c pre W => (c = .ret ∧ ∃ pre' x, pre = pre' ++ [x] ∧ (∀ y ∈ pre', eqT (o.tables[y.1]'y.2.1).name t = false) ∧ eqT (o.tables[x.1]'x.2.1).name t = true ∧ W.cell? ⟨w.heap.size + 1 + 1, 0, none⟩ = some (.int .i64 (x.1 : Int))) ∧ Below w.heap.size w1 W)
    (OwnFrom.and (Own.from (fun s A B row hs hg hr => ⟨hs.1, cell_kept hs.2.1 hg hr, cell_kept hs.2.2.1 hg hr, (frozen_kept hs.2.2.1 hg hr).trans hs.2.2.2⟩) _) (ownFrom_below hszle hszle))
    (fun c => OwnFrom.and (Own.from (fun s A B row hs hg hr => by
      obtain ⟨h1, p', x, h2, h3, h4, h5⟩ := hs
      exact ⟨h1, p', x, h2, h3, h4, cell_kept h5 hg hr⟩) _) (ownFrom_below hszle hszle))
    ⟨⟨by simp, c0, c1, f1⟩, Below.refl _ _⟩
    (fun x a' W => ∃ Bx, w1.heap.size ≤ Bx ∧ W.cell? ⟨Bx, 1, none⟩ = some (.string (o.tables[x.1]'x.2.1).name) ∧ a' = { tmps := #[.agg #[vs, .slice ta o.tables.length tc], .string s, .string t, .pointer (some ⟨w.heap.size, 0, none⟩), undef, .pointer (some ⟨w.heap.size + 1, 0, none⟩), .pointer (some ⟨w.heap.size + 1 + 1, 0, none⟩), .int .i64 (x.1 : Int), .pointer (some ⟨Bx, 0, none⟩),
      .agg #[vs, .slice ta o.tables.length tc], .string s,
      .func (.func 138) #[] #[.pointer (some ⟨w.heap.size + 1 + 1 + 1, 0, none⟩), .pointer (some ⟨w.heap.size + 1 + 1 + 1 + 1, 0, none⟩)], .int .i64 (x.1 : Int), .agg #[.string (o.tables[x.1]'x.2.1).schema, .string (o.tables[x.1]'x.2.1).name, .string (o.tables[x.1]'x.2.1).owner, vcOf f x.1 (o.tables[x.1]'x.2.1), vrOf f x.1 (o.tables[x.1]'x.2.1)], undef, undef, undef, undef, undef], defers := [] })
    (fun x a' s A B row hs hg hr => by
      obtain ⟨Bx, h1, h2, h3⟩ := hs
      exact ⟨Bx, h1, cell_kept h2 hg fun r e => (hr r e).2, h3⟩)
    ?assign ?body ?done ?stop
  case assign =>
    rintro l pre x W K ⟨⟨hp, h2, h3, h4⟩, h5⟩ hK
    have hK2 := fun ob => hK { tmps := #[.agg #[vs, .slice ta o.tables.length tc], .string s, .string t, .pointer (some ⟨w.heap.size, 0, none⟩), undef, .pointer (some ⟨w.heap.size + 1, 0, none⟩), .pointer (some ⟨w.heap.size + 1 + 1, 0, none⟩), .int .i64 (x.1 : Int), .pointer (some ⟨W.heap.size, 0, none⟩),
      .agg #[vs, .slice ta o.tables.length tc], .string s,
      .func (.func 138) #[] #[.pointer (some ⟨w.heap.size + 1 + 1 + 1, 0, none⟩), .pointer (some ⟨w.heap.size + 1 + 1 + 1 + 1, 0, none⟩)], .int .i64 (x.1 : Int), .agg #[.string (o.tables[x.1]'x.2.1).schema, .string (o.tables[x.1]'x.2.1).name, .string (o.tables[x.1]'x.2.1).owner, vcOf f x.1 (o.tables[x.1]'x.2.1), vrOf f x.1 (o.tables[x.1]'x.2.1)], undef, undef, undef, undef, undef], defers := [] } (W.alloc ob)
    unfold encT
    gi_wp2
    refine hK2 _ ((KeepsOthers.alloc _ _).from _) (Keeps.refl.alloc _) ⟨⟨hp, cell_laid _ h2, cell_laid _ h3, frozen_laid _ h3 h4⟩, h5.alloc (Nat.le_trans hszle h5.size) _⟩ ⟨W.heap.size, h5.size, ?_, rfl⟩
    rw [cell_of_row _ _ _ _ _ _ (heap_alloc_new W _)]
    rfl
  case body =>
    rintro l pre x a' W hl ⟨r, hr⟩ ⟨⟨hp, h2, h3, h4⟩, h5⟩ ⟨Bx, hBx, hbx, rfl⟩ hlen
    clear hseq hts c0 c1 f1 hr hgone hnone htc htm hSw
    cases hq : eqT (o.tables[x.1]'x.2.1).name t with
    | true =>
      have e1 : ((o.tables[x.1]'x.2.1).name.toList == t.toList) = true := hq
      gi_wp2
      exact ⟨(KeepsOthers.setCell _ _ _).from _, ⟨rfl, pre, x, rfl, hp, hq, World.cell?_setCell_same' _ _ _ (by rw [h3]; rfl)⟩, h5.setCell (p := ⟨w.heap.size + 1 + 1, 0, none⟩) (by simp; omega) _⟩
    | false =>
      have e1 : ((o.tables[x.1]'x.2.1).name.toList == t.toList) = false := hq
      gi_wp2
      exact ⟨(KeepsOthers.refl _).from _, Keeps.refl, ⟨fun y hy => (List.mem_append.1 hy).elim (hp y) fun e => by rw [List.mem_singleton.1 e]; exact hq, h2, h3, h4⟩, h5⟩
  case done =>
    rintro D ys W hD rfl ⟨⟨hne, _, hcr, hfr⟩, hB⟩ hK
    have hF := hnone hne
    gi_wp2
    have hK' := (KeepsOthers.setCell W ⟨w.heap.size + 1 + 1, 0, none⟩ (.int .i64 (-1))).same D _ hK rfl
    refine ⟨by simp, .inl ⟨_, _, rfl, run_takeDeferred hK', ?_⟩⟩
    have hc5 := cell_kept (World.cell?_setCell_same' W ⟨w.heap.size + 1 + 1, 0, none⟩ (.int .i64 (-1)) (by rw [hcr]; rfl)) (grownBy_putObj' _ D (.deferred none)) (fun r e => by cases e; exact ⟨_, hK', rfl⟩)
    refine ⟨.int .i64 (-1), ?_, by rw [hF], hb0.trans ((hB.setCell (p := ⟨w.heap.size + 1 + 1, 0, none⟩) (by simp; omega) _).trans (belowK_b (w := w1) hszle _ D _ _ hD hK' rfl rfl))⟩
    simp [results, Try.f55, go_sem, hc5]
  case stop =>
    rintro D c pre W hD ⟨k, _, hpre⟩ ⟨⟨rfl, pre', x, rfl, hp, hx, hcr⟩, hB⟩ hK
    have hF := hgone pre' x k hpre hp hx
    gi_wp2
    refine ⟨by simp, .inl ⟨_, _, rfl, run_takeDeferred hK, ?_⟩⟩
    have hc5 := cell_kept hcr (grownBy_putObj' _ D (.deferred none)) (fun r e => by cases e; exact ⟨_, hK, rfl⟩)
    refine ⟨.int .i64 (x.1 : Int), ?_, by rw [hF], hb0.trans (hB.trans (belowK_b (w := w1) hszle W D _ _ hD hK rfl rfl))⟩
    simp [results, Try.f55, go_sem, hc5]
theorem prog_count_any (B : Nat) (o : Objs) (vs vt : Value) (s : ByteArray) (w : World) (ho : objP w (· < B) [vs, vt] o) (hB : B ≤ w.heap.size) :
    Calls Try.prog 69 #[.agg #[vs, vt], .string s] w fun e w' => e = .returned (.int .i64 (tabN o.tables s : Nat)) ∧ Below w.heap.size w w' :=
  callsIn_wide.1 (count_in Fence.wide 3 trivial trivial trivial rfl (by omega) B o vs vt s w ho hB)
theorem prog_place_any (B : Nat) (o : Objs) (vs vt : Value) (s t : ByteArray) (w : World) (ho : objP w (· < B) [vs, vt] o) (hB : B ≤ w.heap.size) :
    Calls Try.prog 55 #[.agg #[vs, vt], .string s, .string t] w fun e w' => e = .returned (.int .i64 (tabI o.tables s t)) ∧ Below w.heap.size w w' :=
  callsIn_wide.1 (place_in Fence.wide 3 trivial trivial trivial rfl (by omega) B o vs vt s t w ho hB)
end
end Go.Proofs.Ytkghkioghkapcaa
