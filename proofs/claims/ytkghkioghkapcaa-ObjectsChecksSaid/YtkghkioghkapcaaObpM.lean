/-
  Merged: ObpM, ObpN.
-/
import Derived.Test.YtkghkioghkapcaaObpL
namespace Go.Proofs.Ytkghkioghkapcaa
section
/-! Layer 7, the program, by contract: the iterator over the foreign rules of all tables. -/
open Go.RowKit Go.Sort Go.Shelf

attribute [local go_sem] Oper.semAt_some
set_option linter.unusedVariables false

/-- Where a rule's columns lie. -/
abbrev LiesR := Nat → Nat → Option Addr × Nat
abbrev ncOf (g : LiesR) (k j : Nat) (r : Rul) : Value := .slice (g k j).1 r.cols.length (g k j).2
/-- The rules' cells. -/
def RulsAt (w : World) (S : Nat → Prop) (ts : List Tab) (f : Lies) (g : LiesR) : Prop :=
  ∀ (k : Nat) (h : k < ts.length) (j : Nat) (hj : j < ts[k].rules.length), ∃ b o, (f k).2.1 = some ⟨b, o, none⟩ ∧ S b ∧ Lst w S strP 1 (ncOf g k j ts[k].rules[j]) ts[k].rules[j].cols ∧
    w.cell? ⟨b, o + j * 8, none⟩ = some (.string ts[k].rules[j].name) ∧ w.cell? ⟨b, o + j * 8 + 1, none⟩ = some (.int .i64 ts[k].rules[j].kind) ∧ w.cell? ⟨b, o + j * 8 + 2, none⟩ = some (ncOf g k j ts[k].rules[j]) ∧
    w.cell? ⟨b, o + j * 8 + 3, none⟩ = some (.int .i64 ts[k].rules[j].low) ∧ w.cell? ⟨b, o + j * 8 + 4, none⟩ = some (.int .i64 ts[k].rules[j].high) ∧
    w.cell? ⟨b, o + j * 8 + 5, none⟩ = some (.string ts[k].rules[j].schema) ∧ w.cell? ⟨b, o + j * 8 + 6, none⟩ = some (.string ts[k].rules[j].table) ∧ w.cell? ⟨b, o + j * 8 + 7, none⟩ = some (.string ts[k].rules[j].key)
theorem ruls_at {w : World} {S : Nat → Prop} {vt : Value} {ts : List Tab} {f : Lies} (h : TabsAt w S vt ts f) : ∃ g, RulsAt w S ts f g := by
  obtain ⟨a, c, rfl, hc, hm, hat⟩ := h
  have hall : ∀ (k : Nat) (hk : k < ts.length) (j : Nat) (hj : j < ts[k].rules.length), ∃ v : Option Addr × Nat, ∃ b o, (f k).2.1 = some ⟨b, o, none⟩ ∧ S b ∧ Lst w S strP 1 (.slice v.1 ts[k].rules[j].cols.length v.2) ts[k].rules[j].cols ∧
    w.cell? ⟨b, o + j * 8, none⟩ = some (.string ts[k].rules[j].name) ∧ w.cell? ⟨b, o + j * 8 + 1, none⟩ = some (.int .i64 ts[k].rules[j].kind) ∧ w.cell? ⟨b, o + j * 8 + 2, none⟩ = some (.slice v.1 ts[k].rules[j].cols.length v.2) ∧
    w.cell? ⟨b, o + j * 8 + 3, none⟩ = some (.int .i64 ts[k].rules[j].low) ∧ w.cell? ⟨b, o + j * 8 + 4, none⟩ = some (.int .i64 ts[k].rules[j].high) ∧
    w.cell? ⟨b, o + j * 8 + 5, none⟩ = some (.string ts[k].rules[j].schema) ∧ w.cell? ⟨b, o + j * 8 + 6, none⟩ = some (.string ts[k].rules[j].table) ∧ w.cell? ⟨b, o + j * 8 + 7, none⟩ = some (.string ts[k].rules[j].key) := by
    intro k hk j hj
    obtain ⟨_, _, _, _, _, hr, _⟩ := hat k hk
    obtain ⟨b, o, x, ha, hb, ⟨v, rfl, hv⟩, hcl⟩ := hr.at hj
    obtain ⟨a1, c1, rfl, _, _⟩ := hv.form
    exact ⟨(a1, c1), b, o, ha, hb, hv, hcl 0 _ rfl, hcl 1 _ rfl, hcl 2 _ rfl, hcl 3 _ rfl, hcl 4 _ rfl, hcl 5 _ rfl, hcl 6 _ rfl, hcl 7 _ rfl⟩
  refine ⟨fun k j => if h : ∃ hk : k < ts.length, j < ts[k].rules.length then (hall k h.1 j h.2).choose else (none, 0), fun k hk j hj => ?_⟩
  have := (hall k hk j hj).choose_spec
  simp only [ncOf, dif_pos (show ∃ hk : k < ts.length, j < ts[k].rules.length from ⟨hk, hj⟩)]
  exact this
theorem RulsAt.keep {w w' : World} {S S' : Nat → Prop} {ts : List Tab} {f : Lies} {g : LiesR} (h : RulsAt w S ts f g) (hS : ∀ k, S k → S' k) (hk : Keeps S w w') : RulsAt w' S' ts f g := by
  intro k h1 j h2
  obtain ⟨b, o, ha, hb, hl, c0, c1, c2, c3, c4, c5, c6, c7⟩ := h k h1 j h2
  exact ⟨b, o, ha, hS b hb, strs_keep hl hS hk, hk.cell c0 hb, hk.cell c1 hb, hk.cell c2 hb, hk.cell c3 hb, hk.cell c4 hb, hk.cell c5 hb, hk.cell c6 hb, hk.cell c7 hb⟩
/-- A foreign rule's place: its table's, its own. -/
abbrev RIx (ts : List Tab) := { p : Nat × Nat // ∃ h : p.1 < ts.length, ∃ h2 : p.2 < ts[p.1].rules.length, ts[p.1].rules[p.2].kind = 4 }
abbrev RIx.tab {ts : List Tab} (x : RIx ts) : Tab := ts[x.1.1]'x.2.1
abbrev RIx.rul {ts : List Tab} (x : RIx ts) : Rul := (ts[x.1.1]'x.2.1).rules[x.1.2]'x.2.2.1
def encR2 (ts : List Tab) (f : Lies) (g : LiesR) (x : RIx ts) : Array Value :=
  #[.agg #[.string x.tab.schema, .string x.tab.name, .string x.tab.owner, vcOf f x.1.1 x.tab, vrOf f x.1.1 x.tab],
    .agg #[.string x.rul.name, .int .i64 x.rul.kind, ncOf g x.1.1 x.1.2 x.rul, .int .i64 x.rul.low, .int .i64 x.rul.high, .string x.rul.schema, .string x.rul.table, .string x.rul.key]]
/-- Those of one table, its first j rules. -/
def pairsR (ts : List Tab) (k j : Nat) : List (RIx ts) := (List.range j).filterMap fun m => if h : ∃ h : k < ts.length, ∃ h2 : m < ts[k].rules.length, ts[k].rules[m].kind = 4 then some ⟨(k, m), h⟩ else none
/-- Those of the first k tables. -/
def pairsT (ts : List Tab) (k : Nat) : List (RIx ts) := (List.range k).flatMap fun i => pairsR ts i (match ts[i]? with | some t => t.rules.length | none => 0)
def upto2 (ts : List Tab) (k j : Nat) : List (RIx ts) := pairsT ts k ++ pairsR ts k j
section
variable {ts : List Tab} {k j : Nat}
theorem upto2_zero (ts : List Tab) (k : Nat) : upto2 ts k 0 = pairsT ts k := by unfold upto2 pairsR; simp
theorem upto2_end (h : k < ts.length) : upto2 ts k ts[k].rules.length = pairsT ts (k + 1) := by
  unfold upto2 pairsT
  rw [List.range_succ, List.flatMap_append]
  simp [List.getElem?_eq_getElem h]
theorem upto2_hit (h : k < ts.length) (hj : j < ts[k].rules.length) (h4 : ts[k].rules[j].kind = 4) : upto2 ts k (j + 1) = upto2 ts k j ++ [⟨(k, j), h, hj, h4⟩] := by
  unfold upto2 pairsR
  rw [List.range_succ, List.filterMap_append, List.append_assoc]
  congr 2
  simp only [List.filterMap_cons, List.filterMap_nil]
  rw [dif_pos ⟨h, hj, h4⟩]
theorem upto2_miss (h : k < ts.length) (hj : j < ts[k].rules.length) (h4 : ¬ ts[k].rules[j].kind = 4) : upto2 ts k (j + 1) = upto2 ts k j := by
  unfold upto2 pairsR
  rw [List.range_succ, List.filterMap_append]
  congr 1
  simp only [List.filterMap_cons, List.filterMap_nil]
  rw [dif_neg (by rintro ⟨_, _, h⟩; exact h4 h), List.append_nil]
theorem pairsT_mono (ts : List Tab) {a b : Nat} (h : a ≤ b) : (pairsT ts a).length ≤ (pairsT ts b).length := by
  induction b with
  | zero => obtain rfl : a = 0 := by omega
            exact Nat.le_refl _
  | succ b ih =>
    by_cases e : a = b + 1
    · subst e; exact Nat.le_refl _
    · refine Nat.le_trans (ih (by omega)) ?_
      unfold pairsT
      rw [List.range_succ, List.flatMap_append, List.length_append]
      omega
theorem upto2_len (h : k < ts.length) (hj : j ≤ ts[k].rules.length) : (upto2 ts k j).length ≤ (pairsT ts ts.length).length := by
  refine Nat.le_trans ?_ (pairsT_mono ts (show k + 1 ≤ ts.length from h))
  rw [← upto2_end h]
  unfold upto2 pairsR
  rw [List.length_append, List.length_append]
  refine Nat.add_le_add_left ?_ _
  exact (List.Sublist.filterMap _ (List.range_sublist.2 hj)).length_le
theorem mem_pairsT (x : RIx ts) {n : Nat} (h : x.1.1 < n) : x ∈ pairsT ts n := by
  unfold pairsT
  rw [List.mem_flatMap]
  refine ⟨x.1.1, by simpa using h, ?_⟩
  unfold pairsR
  rw [List.getElem?_eq_getElem x.2.1, List.mem_filterMap]
  refine ⟨x.1.2, by simpa using x.2.2.1, ?_⟩
  rw [dif_pos x.2]
end

/-- Each block of cells stays as it is. -/
def KeepC (W W' : World) : Prop := ∀ (k : Nat) o, W.heap[k]? = some o → o.isCells = true → W'.heap[k]? = some o
theorem KeepC.refl (W : World) : KeepC W W := fun _ _ h _ => h
theorem KeepC.trans {A B C : World} (h : KeepC A B) (g : KeepC B C) : KeepC A C := fun k o h1 h2 => g k o (h k o h1 h2) h2
theorem KeepC.of_below {A B : World} (h : Below A.heap.size A B) : KeepC A B := fun k o h1 _ => (h.block k (lt_of_block h1)).trans h1
theorem KeepC.put {W : World} {l : Nat} {o : Obj} (o' : Obj) (h : W.heap[l]? = some o) (ho : o.isCells = false) : KeepC W (W.putObj l o') := fun k o2 h1 h2 => by
  by_cases e : k = l
  · subst e
    rw [h] at h1
    cases h1
    rw [ho] at h2
    cases h2
  · exact (World.putObj_heap_other (by first | exact e | exact fun h => e h.symm)).trans h1
def KpR (S : Nat → Prop) (A B : World) : Prop := Keeps S A B ∧ KeepC A B
theorem KpR.trans {S : Nat → Prop} {A B C : World} (h : KpR S A B) (g : KpR S B C) : KpR S A C := ⟨h.1.trans g.1, h.2.trans g.2⟩

set_option maxRecDepth 100000 in
set_option maxHeartbeats 8000000 in
theorem foreign1_in (F : Fence) (n : Nat) (hf : F.fn 125) (hro : F.round = none) (hn : 1 ≤ n) (l Bo : Nat) (S : Nat → Prop) (ts : List Tab) (vt : Value) (f : Lies) (g : LiesR) (J Jx : List (RIx ts) → World → Prop)
    (hSo : S Bo)
    (hY : ∀ pre x W, J pre W → pre.length < (pairsT ts ts.length).length → YieldAt F (n - 1) Try.prog l (encR2 ts f g x) W fun e W' =>
      (e = .returned (.bool true) ∧ J (pre ++ [x]) W' ∧ KpR S W W') ∨ (e = .returned (.bool false) ∧ Jx (pre ++ [x]) W'))
    (W : World) (hJ : AbidesFrom W.heap.size J) (hbo : W.cell? ⟨Bo, 1, none⟩ = some vt) (ht : TabsAt W S vt ts f) (hg : RulsAt W S ts f g) (h0 : J [] W) :
    CallsIn F n Try.prog 125 #[.func (.yield l) #[] #[], .pointer (some ⟨Bo, 0, none⟩)] W fun e W' => (∃ v, e = .returned v) ∧
      ((∃ ys, ys = pairsT ts ts.length ∧ J ys W') ∨ (∃ pre, True ∧ Jx pre W')) := by
  obtain ⟨a, c, rfl, hc, hm, hat⟩ := ht
  unfold maxLen at hm
  obtain ⟨m, hml⟩ : ∃ m, ts.length = m := ⟨_, rfl⟩
  have HML := Lib.hid hml
  have HAT := Lib.hid hat
  have HGT := Lib.hid hg
  have HY := Lib.hid hY
  have HJ := Lib.hid hJ
  rw [show (pairsT ts ts.length) = pairsT ts m by rw [hml]]
  rw [hml] at hc hbo
  clear hat hY hml hJ hg
  refine callsIn_of_wp Try.func125 rfl hf ?_ hro
  simp only [Try.ntmps125, List.size_toArray, List.length_cons, List.length_nil, Nat.reduceAdd, Nat.reduceSub, Array.replicate_succ, Array.replicate_zero, List.push_toArray, List.append_toArray, List.nil_append, List.cons_append]
  gi_wp2
  gi_loopw [4, 6, 10] (fun _ _ i wr => ∃ k : Nat, k ≤ m ∧ i = .int .i64 k ∧ Hid (J (pairsT ts k) wr ∧ Keeps S W wr)) (fun _ _ i _ => m - (intOf i).toNat)
  case atStart => exact ⟨0, Nat.zero_le _, rfl, Lib.hid ⟨h0, Keeps.refl⟩⟩
  case round =>
    obtain ⟨k, hk, rfl, HR⟩ := hrel
    by_cases hlt : k < m
    · have lk : k < ts.length := by rw [HML.out]; exact hlt
      obtain ⟨b, o, rfl, hb, _, hvr, c0, c1, c2, c3, c4⟩ := HAT.out k lk
      obtain ⟨_, hrl2, hrl3⟩ := hvr.len
      unfold maxLen at hrl3
      have hkw := HR.out.2
      have r0 := hkw.cell (p := ⟨b, o + k * 5, none⟩) c0 hb
      have r1 := hkw.cell (p := ⟨b, o + k * 5 + 1, none⟩) c1 hb
      have r2 := hkw.cell (p := ⟨b, o + k * 5 + 2, none⟩) c2 hb
      have r3 := hkw.cell (p := ⟨b, o + k * 5 + 3, none⟩) c3 hb
      have r4 := hkw.cell (p := ⟨b, o + k * 5 + 4, none⟩) c4 hb
      have k0 : (0 : Int) ≤ (k : Int) := by omega
      have k1 : (k : Int) < (m : Int) := by omega
      have HA1 := Lib.hid (HJ.out (pairsT ts k) wr (wr.alloc (.cells #[.string ts[k].schema, .string ts[k].name, .string ts[k].owner, vcOf f k ts[k], vrOf f k ts[k]] 35)) none HR.out.1 (World.grownBy_alloc wr _ none) fun r e => by cases e)
      have HKA := Lib.hid (hkw.alloc (.cells #[.string ts[k].schema, .string ts[k].name, .string ts[k].owner, vcOf f k ts[k], vrOf f k ts[k]] 35))
      have HBX := Lib.hid (heap_alloc_new wr (.cells #[.string ts[k].schema, .string ts[k].name, .string ts[k].owner, vcOf f k ts[k], vrOf f k ts[k]] 35))
      clear c0 c1 c2 c3 c4 hkw hvr
      gi_wp2
      clear r0 r1 r2 r3 r4
      generalize hp : wr.heap.size = p at *
      generalize World.alloc wr _ = w1 at *
      have HU0 := Lib.hid (upto2_zero ts k)
      gi_loopw [6, 17] (fun _ i wq => ∃ j : Nat, j ≤ ts[k].rules.length ∧ i = .int .i64 j ∧ Hid (J (upto2 ts k j) wq ∧ Keeps S W wq ∧ wq.heap[p]? = some (.cells #[.string ts[k].schema, .string ts[k].name, .string ts[k].owner, vcOf f k ts[k], vrOf f k ts[k]] 35 (0, 0)))) (fun _ i _ => ts[k].rules.length - (intOf i).toNat)
      case atStart => exact ⟨0, Nat.zero_le _, rfl, Lib.hid ⟨by rw [HU0.out]; exact HA1.out, HKA.out, HBX.out⟩⟩
      case round =>
        obtain ⟨j, hj, rfl, HQ⟩ := hrel
        by_cases hlj : j < ts[k].rules.length
        · have lj := hlj
          obtain ⟨b2, o2, hfe, hb2, _, g0, g1, g2, g3, g4, g5, g6, g7⟩ := HGT.out k lk j lj
          have hkq := HQ.out.2.1
          have s0 := hkq.cell (p := ⟨b2, o2 + j * 8, none⟩) g0 hb2
          have s1 := hkq.cell (p := ⟨b2, o2 + j * 8 + 1, none⟩) g1 hb2
          have s2 := hkq.cell (p := ⟨b2, o2 + j * 8 + 2, none⟩) g2 hb2
          have s3 := hkq.cell (p := ⟨b2, o2 + j * 8 + 3, none⟩) g3 hb2
          have s4 := hkq.cell (p := ⟨b2, o2 + j * 8 + 4, none⟩) g4 hb2
          have s5 := hkq.cell (p := ⟨b2, o2 + j * 8 + 5, none⟩) g5 hb2
          have s6 := hkq.cell (p := ⟨b2, o2 + j * 8 + 6, none⟩) g6 hb2
          have s7 := hkq.cell (p := ⟨b2, o2 + j * 8 + 7, none⟩) g7 hb2
          have j0 : (0 : Int) ≤ (j : Int) := by omega
          have j1 : (j : Int) < (ts[k].rules.length : Int) := by omega
          have HA2 := Lib.hid (HJ.out (upto2 ts k j) wr (wr.alloc (.cells #[.string ts[k].rules[j].name, .int .i64 ts[k].rules[j].kind, ncOf g k j ts[k].rules[j], .int .i64 ts[k].rules[j].low, .int .i64 ts[k].rules[j].high, .string ts[k].rules[j].schema, .string ts[k].rules[j].table, .string ts[k].rules[j].key] 56)) none HQ.out.1 (World.grownBy_alloc wr _ none) fun r e => by cases e)
          have HK2 := Lib.hid (hkq.alloc (.cells #[.string ts[k].rules[j].name, .int .i64 ts[k].rules[j].kind, ncOf g k j ts[k].rules[j], .int .i64 ts[k].rules[j].low, .int .i64 ts[k].rules[j].high, .string ts[k].rules[j].schema, .string ts[k].rules[j].table, .string ts[k].rules[j].key] 56))
          have hp0 := (Gr.alloc wr (.cells #[.string ts[k].rules[j].name, .int .i64 ts[k].rules[j].kind, ncOf g k j ts[k].rules[j], .int .i64 ts[k].rules[j].low, .int .i64 ts[k].rules[j].high, .string ts[k].rules[j].schema, .string ts[k].rules[j].table, .string ts[k].rules[j].key] 56)).below.block p (lt_of_block HQ.out.2.2)
          have HP2 := Lib.hid (hp0.trans HQ.out.2.2)
          have t0 := box_at HP2.out 0 rfl
          have t1 := box_at HP2.out 1 rfl
          have t2 := box_at HP2.out 2 rfl
          have t3 := box_at HP2.out 3 rfl
          have t4 := box_at HP2.out 4 rfl
          clear g0 g1 g2 g3 g4 g5 g6 g7 hkq hp0
          by_cases h4 : ts[k].rules[j].kind = 4
          · have e4 : (ts[k].rules[j].kind == 4) = true := by rw [beq_iff_eq]; exact h4
            have H4 := Lib.hid h4
            clear h4
            obtain ⟨fn, tmps, assign, body, hy, hR⟩ := HY.out (upto2 ts k j) ⟨(k, j), lk, lj, H4.out⟩ _ HA2.out (by
              have := upto2_len lk (show j + 1 ≤ ts[k].rules.length from lj)
              rw [upto2_hit lk lj H4.out, List.length_append, List.length_singleton] at this
              omega)
            unfold encR2 at hy
            dsimp only [RIx.tab, RIx.rul] at hy
            have HNX := Lib.hid (upto2_hit lk lj H4.out)
            have HRR := Lib.hid hR
            clear hR
            gi_wp2
            refine HRR.out.mono ?_
            rintro e W3 (⟨rfl, hJ3, hk3⟩ | ⟨rfl, hJx3⟩)
            · have HN := Lib.hid (show J (upto2 ts k (j + 1)) W3 ∧ Keeps S W W3 ∧ W3.heap[p]? = some (.cells #[.string ts[k].schema, .string ts[k].name, .string ts[k].owner, vcOf f k ts[k], vrOf f k ts[k]] 35 (0, 0)) from ⟨by rw [HNX.out]; exact hJ3, HK2.out.trans hk3.1, hk3.2 p _ HP2.out rfl⟩)
              clear hJ3 hk3
              gi_wp2
              go_roundw
              case rel =>
                repeat apply Exists.intro
                refine ⟨?r1, ?r2⟩
                case r2 => rw [hfe]
                case r1 => exact ⟨j + 1, by omega, by go_num, HN⟩
              case measure => simp [intOf]; omega
            · have HN := Lib.hid (show Jx (upto2 ts k (j + 1)) W3 from by rw [HNX.out]; exact hJx3)
              clear hJx3
              gi_wp2
              refine bodyPost_ret (results_none rfl _ _ _) rfl ?_
              exact ⟨⟨_, rfl⟩, .inr ⟨_, trivial, HN.out⟩⟩
          · have e4 : (ts[k].rules[j].kind == 4) = false := by rw [beq_eq_false_iff_ne]; exact h4
            have HN := Lib.hid (upto2_miss lk lj h4)
            clear h4
            gi_wp2
            refine ⟨fun _ h => (by cases h), ?_⟩
            gi_wp2
            go_roundw
            case rel =>
              repeat apply Exists.intro
              refine ⟨?r1, ?r2⟩
              case r2 => rw [hfe]
              case r1 => exact ⟨j + 1, by omega, by go_num, Lib.hid ⟨by rw [HN.out]; exact HA2.out, HK2.out, HP2.out⟩⟩
            case measure => simp [intOf]; omega
        · have ej : j = ts[k].rules.length := by omega
          have j1 : ¬ (j : Int) < (ts[k].rules.length : Int) := by omega
          have HE := Lib.hid (show J (pairsT ts (k + 1)) wr from by rw [← upto2_end lk, ← ej]; exact HQ.out.1)
          clear ej
          gi_wp2
          go_roundw
          case rel => exact ⟨k + 1, by omega, by go_num, Lib.hid ⟨HE.out, HQ.out.2.1⟩⟩
          case measure => simp [intOf]; omega
    · obtain rfl : k = m := by omega
      gi_wp2
      go_end0
      exact ⟨⟨_, rfl⟩, .inl ⟨_, rfl, HR.out.1⟩⟩
theorem foreign_stops (F : Fence) (n : Nat) (hf : F.fn 125) (hro : F.round = none) (hn : 1 ≤ n) (Bo : Nat) (S : Nat → Prop) (ts : List Tab) (vt : Value) (f : Lies) (g : LiesR) (hSo : S Bo)
    (w : World) (hbo : w.cell? ⟨Bo, 1, none⟩ = some vt) (ht : TabsAt w S vt ts f) (hg : RulsAt w S ts f g) (hSw : ∀ k, S k → k < w.heap.size) :
    SeqStopsK F n Try.prog 125 #[.pointer (some ⟨Bo, 0, none⟩)] (encR2 ts f g) (KpR S) (fun ys => ys = pairsT ts ts.length) (fun _ => True) (pairsT ts ts.length).length w := fun l J Jx W hW hJ _ hY h0 => by
  have hk : Keeps S w W := Keeps.of_below hW hSw
  exact foreign1_in F n hf hro hn l Bo S ts vt f g J Jx hSo hY W hJ (hk.cell hbo hSo) (ht.keep (fun _ h => h) hk) (hg.keep (fun _ h => h) hk) h0
theorem foreign_in (F : Fence) (n : Nat) (hf : F.fn 78) (hro : F.round = none) (vs vt : Value) (w : World) :
    CallsIn F n Try.prog 78 #[.agg #[vs, vt]] w fun e w' => e = .returned (.func (.func 125) #[] #[.pointer (some ⟨w.heap.size, 0, none⟩)]) ∧
      w' = w.alloc (.cells #[vs, vt] 26) := by
  refine callsIn_of_wp Try.func78 rfl hf ?_ hro
  simp only [Try.ntmps78, List.size_toArray, List.length_cons, List.length_nil, Nat.reduceAdd, Nat.reduceSub, Array.replicate_succ, Array.replicate_zero, List.push_toArray, List.append_toArray, List.nil_append, List.cons_append]
  gi_wp2
  go_ret
  exact ⟨rfl, rfl⟩
end

section
/-! Layer 7, the program, by contract: keysThere. -/
open Go.RowKit Go.Sort Go.Shelf

attribute [local go_sem] Oper.semAt_some

/-- Does each foreign rule have its key? -/
def keysB (ts : List Tab) : Bool := ts.all fun t => t.rules.all fun r => decide (r.kind ≠ 4) || decide (ckE ts t.cols r = 0)
theorem keysB_yes {ts : List Tab} (h : ∀ x ∈ pairsT ts ts.length, ckE ts x.tab.cols x.rul = 0) : keysB ts = true := by
  unfold keysB
  rw [List.all_eq_true]
  intro t ht
  obtain ⟨k, hk, rfl⟩ := List.mem_iff_getElem.1 ht
  rw [List.all_eq_true]
  intro r hr
  obtain ⟨j, hj, rfl⟩ := List.mem_iff_getElem.1 hr
  by_cases h4 : ts[k].rules[j].kind = 4
  · have := h ⟨(k, j), hk, hj, h4⟩ (mem_pairsT _ hk)
    rw [decide_eq_true (show ckE ts ts[k].cols ts[k].rules[j] = 0 from this)]; simp
  · rw [decide_eq_true (show ts[k].rules[j].kind ≠ 4 from h4)]; simp
theorem keysB_no {ts : List Tab} (x : RIx ts) (h : ckE ts x.tab.cols x.rul ≠ 0) : keysB ts = false := by
  unfold keysB
  rw [List.all_eq_false]
  refine ⟨x.tab, List.getElem_mem _, ?_⟩
  rw [Bool.not_eq_true, List.all_eq_false]
  refine ⟨x.rul, List.getElem_mem _, ?_⟩
  rw [decide_eq_false h, decide_eq_false (show ¬ x.rul.kind ≠ 4 by simpa using x.2.2.2)]
  simp
theorem row_kept {W W' : World} {row : Option Nat} {b : Nat} {o : Obj} (h : W.heap[b]? = some o) (ho : o.isCells = true) (hg : W.grownBy W' row) (hr : ∀ r, row = some r → ∃ o : Obj, W.heap[r]? = some o ∧ o.isCells = false) : W'.heap[b]? = some o := by
  refine (hg.block b (lt_of_block h) fun e => ?_).trans h
  obtain ⟨o', h1, h2⟩ := hr b e.symm
  rw [h] at h1
  cases h1
  rw [ho] at h2
  cases h2
theorem keepsOthers_of {W W' : World} (h : Below W.heap.size W W') : KeepsOthers W W' := KeepsOthers.of_grownBy (row := none) ⟨h.os, h.tape, h.output, h.size, fun k hk _ => h.block k hk⟩ (fun k o e => by cases e)

set_option maxRecDepth 100000 in
set_option maxHeartbeats 8000000 in
theorem prog_keys_any (B : Nat) (o : Objs) (vs vt : Value) (w : World) (ho : objP w (· < B) [vs, vt] o) (hB : B ≤ w.heap.size) (hsm : smallO 3000 o) :
    Calls Try.prog 51 #[.agg #[vs, vt]] w fun e w' => e = .returned (.bool (keysB o.tables)) ∧ Below w.heap.size w w' := by
  refine (callsIn_wide (n := 3)).1 ?_
  have hro : Fence.wide.round = none := rfl
  have HO := Lib.hid ho
  obtain ⟨_, _, hv, hss, hts⟩ := ho
  simp only [List.cons.injEq, and_true] at hv
  obtain ⟨rfl, rfl⟩ := hv
  obtain ⟨f, hft⟩ := tabs_at hts
  obtain ⟨g, hgt⟩ := ruls_at hft
  obtain ⟨ta, tc, rfl, htc, htm⟩ := hts.form
  obtain ⟨sa, sc, rfl, _, _⟩ := hss.form
  refine callsIn_of_wp_marks Try.func51 rfl trivial ?_ hro
  simp only [Try.ntmps51, List.size_toArray, List.length_cons, List.length_nil, Nat.reduceAdd, Nat.reduceSub, Array.replicate_succ, Array.replicate_zero, List.push_toArray, List.append_toArray, List.nil_append, List.cons_append]
  gi_wp2_with (refine ⟨trivial, ?_⟩; gi_at_call 78; refine (foreign_in Fence.wide (3 - 1) trivial hro _ _ _).mono ?_; rintro e w' ⟨rfl, rfl⟩)
  obtain ⟨hb0, q0, q1, q2, hsz⟩ := boxes3p w (.cells #[.slice sa o.schemas.length sc, .slice ta o.tables.length tc] 26) (.cells #[.bool false] 4) (.cells #[.slice sa o.schemas.length sc, .slice ta o.tables.length tc] 26)
  generalize World.alloc (World.alloc (World.alloc w _) _) _ = w1 at *
  have hSw : ∀ k, (k < w1.heap.size ∧ k ≠ w.heap.size + 1) → k < w1.heap.size := fun k h => h.1
  have hkw : Keeps (· < B) w w1 := Keeps.of_below hb0 fun j hj => Nat.lt_of_lt_of_le hj hB
  have hseq := foreign_stops Fence.wide (3 - 1) trivial hro (by omega) (w.heap.size + 1 + 1) (fun k => k < w1.heap.size ∧ k ≠ w.heap.size + 1) o.tables (.slice ta o.tables.length tc) f g (by omega) w1 (box_at q2 1 rfl)
    (hft.keep (fun k hk => ⟨by omega, by omega⟩) hkw) (hgt.keep (fun k hk => ⟨by omega, by omega⟩) hkw) hSw
  have hszle : w.heap.size ≤ w1.heap.size := by omega
  have hlt1 : w.heap.size + 1 < w1.heap.size := by omega
  have HYES := Lib.hid (keysB_yes (ts := o.tables))
  have HNO := Lib.hid (fun x => keysB_no (ts := o.tables) x)
  have HFT := Lib.hid hft; have HGT := Lib.hid hgt; have HB0 := Lib.hid hb0; have HSM := Lib.hid hsm
  have hq0 := q0; have hq1 := q1
  clear hsz q0 q1 q2 hkw hft hgt hts hss hb0 hsm
  refine wpIn_rangeFunc_ownH hro (by omega) (gf := 125) (lb := #[.pointer (some ⟨w.heap.size + 1 + 1, 0, none⟩)]) rfl trivial (enters_of Try.func125 (by kernel_rfl) rfl)
    hseq (fun h k => h.trans k) (fun W l o o' hl h ho _ => ⟨keeps_put hSw W l o o' hl h, KeepC.put o' h ho⟩) (Below.refl _ _) (fun _ => rfl)
    (fun pre W => ((∀ y ∈ pre, ckE o.tables y.tab.cols y.rul = 0) ∧ W.heap[w.heap.size]? = some (.cells #[.slice sa o.schemas.length sc, .slice ta o.tables.length tc] 26 (0, 0)) ∧ W.heap[w.heap.size + 1]? = some (.cells #[.bool false] 4 (0, 0))) ∧ Below w.heap.size w1 W)
    (fun c pre W => (c = .ret ∧ (∃ x : RIx o.tables, ckE o.tables x.tab.cols x.rul ≠ 0) ∧ W.cell? ⟨w.heap.size + 1, 0, none⟩ = some (.bool false)) ∧ Below w.heap.size w1 W)
    (OwnFrom.and (Own.from (fun s A B row hs hg hr => ⟨hs.1, row_kept hs.2.1 rfl hg hr, row_kept hs.2.2 rfl hg hr⟩) _) (ownFrom_below hszle hszle))
    (fun c => OwnFrom.and (Own.from (fun s A B row hs hg hr => ⟨hs.1, hs.2.1, cell_kept hs.2.2 hg hr⟩) _) (ownFrom_below hszle hszle))
    ⟨⟨by simp, hq0, hq1⟩, Below.refl _ _⟩
    (fun x a' W => ∃ Bt Br, w1.heap.size ≤ Bt ∧ w1.heap.size ≤ Br ∧ W.heap[Bt]? = some (.cells #[.string x.tab.schema, .string x.tab.name, .string x.tab.owner, vcOf f x.1.1 x.tab, vrOf f x.1.1 x.tab] 35 (0, 0)) ∧ W.heap[Br]? = some (.cells #[.string x.rul.name, .int .i64 x.rul.kind, ncOf g x.1.1 x.1.2 x.rul, .int .i64 x.rul.low, .int .i64 x.rul.high, .string x.rul.schema, .string x.rul.table, .string x.rul.key] 56 (0, 0)) ∧ a' = (Act.mk #[.agg #[.slice sa o.schemas.length sc, .slice ta o.tables.length tc], .pointer (some ⟨w.heap.size, 0, none⟩), .pointer (some ⟨w.heap.size + 1, 0, none⟩), .pointer (some ⟨Bt, 0, none⟩), .pointer (some ⟨Br, 0, none⟩), .agg #[.slice sa o.schemas.length sc, .slice ta o.tables.length tc], .func (.func 125) #[] #[.pointer (some ⟨w.heap.size + 1 + 1, 0, none⟩)],
      .agg #[.string x.tab.schema, .string x.tab.name, .string x.tab.owner, vcOf f x.1.1 x.tab, vrOf f x.1.1 x.tab], .agg #[.string x.rul.name, .int .i64 x.rul.kind, ncOf g x.1.1 x.1.2 x.rul, .int .i64 x.rul.low, .int .i64 x.rul.high, .string x.rul.schema, .string x.rul.table, .string x.rul.key], undef, undef, undef, undef, undef] []))
    (fun x a' s A B row hs hg hr => by
      obtain ⟨Bt, Br, h1, h2, h3, h4, h5⟩ := hs
      exact ⟨Bt, Br, h1, h2, row_kept h3 rfl hg fun r e => (hr r e).2, row_kept h4 rfl hg fun r e => (hr r e).2, h5⟩)
    ?assign ?body ?done ?stop
  case assign =>
    rintro l pre x W K ⟨⟨hp, h2, h3⟩, h5⟩ hK
    have hs1 : (W.alloc (.cells #[.string x.tab.schema, .string x.tab.name, .string x.tab.owner, vcOf f x.1.1 x.tab, vrOf f x.1.1 x.tab] 35 (0, 0))).heap.size = W.heap.size + 1 := by simp
    have hb1 := (Gr.alloc W (.cells #[.string x.tab.schema, .string x.tab.name, .string x.tab.owner, vcOf f x.1.1 x.tab, vrOf f x.1.1 x.tab] 35 (0, 0))).below
    have hb2 := (Gr.alloc (W.alloc (.cells #[.string x.tab.schema, .string x.tab.name, .string x.tab.owner, vcOf f x.1.1 x.tab, vrOf f x.1.1 x.tab] 35 (0, 0))) (.cells #[.string x.rul.name, .int .i64 x.rul.kind, ncOf g x.1.1 x.1.2 x.rul, .int .i64 x.rul.low, .int .i64 x.rul.high, .string x.rul.schema, .string x.rul.table, .string x.rul.key] 56 (0, 0))).below
    have hbb := hb1.trans (hb2.mono hb1.size)
    have hn1 := heap_alloc_new W (.cells #[.string x.tab.schema, .string x.tab.name, .string x.tab.owner, vcOf f x.1.1 x.tab, vrOf f x.1.1 x.tab] 35 (0, 0))
    have hn2 := heap_alloc_new (W.alloc (.cells #[.string x.tab.schema, .string x.tab.name, .string x.tab.owner, vcOf f x.1.1 x.tab, vrOf f x.1.1 x.tab] 35 (0, 0))) (.cells #[.string x.rul.name, .int .i64 x.rul.kind, ncOf g x.1.1 x.1.2 x.rul, .int .i64 x.rul.low, .int .i64 x.rul.high, .string x.rul.schema, .string x.rul.table, .string x.rul.key] 56 (0, 0))
    rw [hs1] at hn2
    have hK2 := hK (Act.mk #[.agg #[.slice sa o.schemas.length sc, .slice ta o.tables.length tc], .pointer (some ⟨w.heap.size, 0, none⟩), .pointer (some ⟨w.heap.size + 1, 0, none⟩), .pointer (some ⟨W.heap.size, 0, none⟩), .pointer (some ⟨W.heap.size + 1, 0, none⟩), .agg #[.slice sa o.schemas.length sc, .slice ta o.tables.length tc], .func (.func 125) #[] #[.pointer (some ⟨w.heap.size + 1 + 1, 0, none⟩)],
      .agg #[.string x.tab.schema, .string x.tab.name, .string x.tab.owner, vcOf f x.1.1 x.tab, vrOf f x.1.1 x.tab], .agg #[.string x.rul.name, .int .i64 x.rul.kind, ncOf g x.1.1 x.1.2 x.rul, .int .i64 x.rul.low, .int .i64 x.rul.high, .string x.rul.schema, .string x.rul.table, .string x.rul.key], undef, undef, undef, undef, undef] []) ((W.alloc (.cells #[.string x.tab.schema, .string x.tab.name, .string x.tab.owner, vcOf f x.1.1 x.tab, vrOf f x.1.1 x.tab] 35 (0, 0))).alloc (.cells #[.string x.rul.name, .int .i64 x.rul.kind, ncOf g x.1.1 x.1.2 x.rul, .int .i64 x.rul.low, .int .i64 x.rul.high, .string x.rul.schema, .string x.rul.table, .string x.rul.key] 56 (0, 0))) ((keepsOthers_of hbb).from _) ⟨(Keeps.refl.alloc _).alloc _, KeepC.of_below hbb⟩ ⟨⟨hp, (hbb.block _ (lt_of_block h2)).trans h2, (hbb.block _ (lt_of_block h3)).trans h3⟩, h5.trans (hbb.mono (Nat.le_trans hszle h5.size))⟩
      ⟨W.heap.size, W.heap.size + 1, h5.size, Nat.le_succ_of_le h5.size, (hb2.block _ (by rw [hs1]; omega)).trans hn1, hn2, rfl⟩
    clear hs1 hb1 hb2 hbb hn1 hn2 hK
    unfold encR2
    dsimp only [RIx.tab, RIx.rul] at hK2 ⊢
    gi_wp2
    exact hK2
  case body =>
    rintro l pre x a' W hl ⟨r, hr⟩ ⟨⟨hp, h2, h3⟩, h5⟩ ⟨Bt, Br, hBt, hBr, ht, hrr, rfl⟩ hlen
    clear hseq hr hlen hq0 hq1 hSw
    have hbw := HB0.out.trans h5
    have hkw : Keeps (· < B) w W := Keeps.of_below hbw fun j hj => Nat.lt_of_lt_of_le hj hB
    obtain ⟨_, _, -, -, -, hat⟩ := HFT.out
    obtain ⟨_, _, -, -, hcl, hrl, -⟩ := hat x.1.1 x.2.1
    obtain ⟨_, _, -, -, hnl, -⟩ := HGT.out x.1.1 x.2.1 x.1.2 x.2.2.1
    have HCK := Lib.hid (prog_key_any B o x.tab x.rul _ _ _ _ _ W (obj_keep HO.out (fun _ h => h) hkw) (cols_keep hcl (fun _ h => h) hkw) (ruls_keep hrl (fun _ h => h) hkw) (strs_keep hnl (fun _ h => h) hkw) (Nat.le_trans hB hkw.size) HSM.out ((HSM.out.2.2 x.1.1 x.2.1).2.2 x.1.2 x.2.2.1))
    have HN := Lib.hid (HNO.out x)
    have HPX := Lib.hid (fun (h : ckE o.tables x.tab.cols x.rul = 0) => show ∀ y ∈ pre ++ [x], ckE o.tables y.tab.cols y.rul = 0 from fun y hy => (List.mem_append.1 hy).elim (hp y) fun e => by rw [List.mem_singleton.1 e]; exact h)
    have HW := Lib.hid (fun (W' : World) (hb : Below W.heap.size W W') => (⟨⟨(hb.block _ (lt_of_block h2)).trans h2, (hb.block _ (lt_of_block h3)).trans h3⟩, h5.trans (hb.mono (Nat.le_trans hszle h5.size))⟩ : (W'.heap[w.heap.size]? = some (.cells #[.slice sa o.schemas.length sc, .slice ta o.tables.length tc] 26 (0, 0)) ∧ W'.heap[w.heap.size + 1]? = some (.cells #[.bool false] 4 (0, 0))) ∧ Below w.heap.size w1 W'))
    have c0 := box_at h2 0 rfl
    have c1 := box_at h2 1 rfl
    have t0 := box_at ht 0 rfl
    have t1 := box_at ht 1 rfl
    have t2 := box_at ht 2 rfl
    have t3 := box_at ht 3 rfl
    have t4 := box_at ht 4 rfl
    have r0 := box_at hrr 0 rfl
    have r1 := box_at hrr 1 rfl
    have r2 := box_at hrr 2 rfl
    have r3 := box_at hrr 3 rfl
    have r4 := box_at hrr 4 rfl
    have r5 := box_at hrr 5 rfl
    have r6 := box_at hrr 6 rfl
    have r7 := box_at hrr 7 rfl
    clear hkw hat hcl hrl hnl ht hrr hbw hp h2 h3 h5
    by_cases hz : ckE o.tables x.tab.cols x.rul = 0
    · have HPN := Lib.hid (HPX.out hz)
      rw [hz] at HCK
      clear hz
      gi_wp2_with (refine ⟨trivial, ?_⟩; gi_at_call 98; refine (CallsIn.inRound l (callsIn_wide.2 HCK.out)).mono ?_; rintro e w7 ⟨rfl, hb7⟩)
      have HR := HW.out w7 hb7
      exact ⟨(keepsOthers_of hb7).from _, ⟨⟨hb7.os, hb7.tape, hb7.output, hb7.size, fun k hk _ => hb7.block k hk⟩, KeepC.of_below hb7⟩, ⟨HPN.out, HR.1.1, HR.1.2⟩, HR.2⟩
    · have e12 : (ckE o.tables x.tab.cols x.rul != 0) = true := by rw [bne_iff_ne]; exact hz
      have HZ := Lib.hid (⟨x, hz⟩ : ∃ x : RIx o.tables, ckE o.tables x.tab.cols x.rul ≠ 0)
      have HF := Lib.hid (fun W' hb => (HW.out W' hb).1.2)
      clear hz
      generalize hq : ckE o.tables x.tab.cols x.rul = q at *
      clear hq
      gi_wp2_with fail
      refine ⟨trivial, ?_⟩
      refine (CallsIn.inRound l (callsIn_wide.2 HCK.out)).mono ?_
      rintro e w7 ⟨rfl, hb7⟩
      have f7 := HW.out w7 hb7
      have c7 := box_at f7.1.2 0 rfl
      have z7 := frozen_of_row _ _ 0 _ _ f7.1.2
      have HB7 := Lib.hid f7.2
      have HO7 := Lib.hid (keepsOthers_of hb7)
      clear f7 hb7
      gi_wp2
      exact ⟨(HO7.out.trans (KeepsOthers.setCell _ _ _)).from _, ⟨rfl, HZ.out, World.cell?_setCell_same' _ _ _ (by rw [c7]; rfl)⟩, HB7.out.setCell (p := ⟨w.heap.size + 1, 0, none⟩) (by simp) _⟩
  case done =>
    rintro D ys W hD rfl ⟨⟨hne, _, hres⟩, hB5⟩ hK
    have HF := Lib.hid (HYES.out hne)
    have hcr := box_at hres 0 rfl
    have hfr := frozen_of_row _ _ 0 _ _ hres
    have HB5 := Lib.hid (HB0.out.trans hB5)
    have hDl : w.heap.size ≤ D := by omega
    clear hres hB5 hseq hne
    gi_wp2
    have hK' := (KeepsOthers.setCell W ⟨w.heap.size + 1, 0, none⟩ (.bool true)).same D _ hK rfl
    refine ⟨by simp, .inl ⟨_, _, rfl, run_takeDeferred hK', ?_⟩⟩
    have hc5 := cell_kept (World.cell?_setCell_same' W ⟨w.heap.size + 1, 0, none⟩ (.bool true) (by rw [hcr]; rfl)) (grownBy_putObj' _ D (.deferred none)) (fun r e => by cases e; exact ⟨_, hK', rfl⟩)
    refine ⟨.bool true, ?_, by rw [HF.out], (HB5.out.setCell (p := ⟨w.heap.size + 1, 0, none⟩) (by simp) _).trans (belowK_b (w := w) (Nat.le_refl _) _ D _ _ hDl hK' rfl rfl)⟩
    simp [results, Try.f51, go_sem, hc5]
  case stop =>
    rintro D c pre W hD _ ⟨⟨rfl, ⟨x, hx⟩, hcr⟩, hB5⟩ hK
    have HF := Lib.hid (HNO.out x hx)
    have HB5 := Lib.hid (HB0.out.trans hB5)
    have hDl : w.heap.size ≤ D := by omega
    clear hB5 hseq hx
    gi_wp2
    refine ⟨by simp, .inl ⟨_, _, rfl, run_takeDeferred hK, ?_⟩⟩
    have hc5 := cell_kept hcr (grownBy_putObj' _ D (.deferred none)) (fun r e => by cases e; exact ⟨_, hK, rfl⟩)
    refine ⟨.bool false, ?_, by rw [HF.out], HB5.out.trans (belowK_b (w := w) (Nat.le_refl _) W D _ _ hDl hK rfl rfl)⟩
    simp [results, Try.f51, go_sem, hc5]
end
end Go.Proofs.Ytkghkioghkapcaa
