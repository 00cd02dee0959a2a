/-
  Layer 8, the program, by contract: BinarySearchFunc and Insert of texts and of members. (Made by wip/gen_ins.py.)
-/
import Derived.Test.YtekhkmhpeefenaaRolS
import Derived.Test.YtekhkmhpeefenaaRolD
import Derived.Test.YtekhkmhpeefenaaLaidB
namespace Go.Proofs.Ytekhkmhpeefenaa
set_option linter.unusedVariables false
open Go.RowKit Go.Sort Go.Shelf

def posB {α : Type} (lt : α → α → Bool) (x : α) (l : List α) : Nat := (l.takeWhile fun y => lt y x).length
theorem posB_le {α : Type} (lt : α → α → Bool) (x : α) (l : List α) : posB lt x l ≤ l.length := (List.takeWhile_prefix _).length_le
theorem posB_is {α : Type} {lt : α → α → Bool} {x : α} : ∀ {l : List α} {p : Nat}, p ≤ l.length → (∀ m (h : m < l.length), m < p → lt l[m] x = true) → (∀ m (h : m < l.length), p ≤ m → lt l[m] x = false) → posB lt x l = p
  | [], p, hp, _, _ => by simp at hp; subst hp; rfl
  | y :: r, 0, _, _, h2 => by
    have := h2 0 (by simp) (Nat.le_refl _)
    simp only [List.getElem_cons_zero] at this
    unfold posB
    rw [List.takeWhile_cons, if_neg (by rw [this]; simp)]; rfl
  | y :: r, p + 1, hp, h1, h2 => by
    have h0 := h1 0 (by simp) (by omega)
    simp only [List.getElem_cons_zero] at h0
    have ih := posB_is (lt := lt) (x := x) (l := r) (p := p) (by simpa using hp) (fun m h hm => by have := h1 (m + 1) (by simp; omega) (by omega); simpa using this) (fun m h hm => by have := h2 (m + 1) (by simp; omega) (by omega); simpa using this)
    unfold posB at ih ⊢
    rw [List.takeWhile_cons, if_pos h0, List.length_cons, ih]
theorem insBy_posB {α : Type} {lt : α → α → Bool} {x : α} : ∀ {l : List α}, (∀ y ∈ l, lt y x = !(lt x y)) → l.take (posB lt x l) ++ ([x] ++ l.drop (posB lt x l)) = insBy lt x l
  | [], _ => rfl
  | y :: r, h => by
    have hy := h y (List.mem_cons_self ..)
    have ih := insBy_posB (l := r) fun z hz => h z (List.mem_cons_of_mem _ hz)
    unfold insBy posB
    cases hl : lt x y with
    | true =>
      rw [hl] at hy
      rw [List.takeWhile_cons, if_neg (by rw [hy]; simp)]
      simp
    | false =>
      rw [hl] at hy
      rw [List.takeWhile_cons, if_pos (by rw [hy]; rfl)]
      unfold posB at ih
      simpa using ih
def BsfPost (w : World) (p : Nat) (e : Ending) (w' : World) : Prop := ∃ f : Bool, e = .returned (.tuple #[.int .i64 (p : Nat), .bool f]) ∧ Gr w w'
def InsLPost {α : Type} (Q : Elem α) (w : World) (e : TypeId) (sz : Nat) (l : List α) (en : Ending) (w' : World) : Prop := ∃ v, en = .returned v ∧ OwnX Q w' w.heap.size e sz v l ∧ Below w.heap.size w w'

set_option maxRecDepth 100000 in
set_option maxHeartbeats 8000000 in
theorem prog_bsf_mem (B : Nat) (a : Option Addr) (n c : Nat) (l : List Mem) (x : Mem) (w : World) (h : Lst w (· < B) memP 2 (.slice a n c) l) (hB : B ≤ w.heap.size) (hn : n ≤ 3000) (hp : l.Pairwise (fun a b => ltM a b = true)) :
    Calls Try.prog 69 #[.slice a n c, .agg #[.string x.role, .string x.of], .func (.func 54) #[] #[]] w (BsfPost w (posB ltM x l)) := by
  have mixed := mixed_ok
  obtain ⟨hl, hc, hm⟩ := h.len
  unfold maxLen at hm
  have hg := Gr.alloc w (.cells #[.string x.role, .string x.of] 45)
  have hrow := heap_alloc_new w (.cells #[.string x.role, .string x.of] 45)
  have hsz := (show (w.alloc (.cells #[.string x.role, .string x.of] 45)).heap.size = w.heap.size + 1 by simp)
  have hpw : ∀ i j (hi : i < l.length) (hj : j < l.length), i < j → ltM l[i] l[j] = true := fun i j hi hj hij => List.pairwise_iff_getElem.1 hp i j hi hj hij
  have HL := Lib.hid hl; have HH := Lib.hid h; have HG := Lib.hid hg; have HROW := Lib.hid hrow; have HSZ := Lib.hid hsz; have HPW := Lib.hid hpw
  clear h hl hg hrow hp hpw hsz
  go_enter Try.func69, Try.ntmps69
  go_wp2_with fail
  generalize hw0 : World.alloc w _ = w0 at *
  clear hw0
  go_loopw [9, 10, 11] (fun i j _ wr => ∃ p q : Nat, i = .int .i64 p ∧ j = .int .i64 q ∧ p ≤ q ∧ q ≤ n ∧ Hid ((∀ m (h : m < l.length), m < p → ltM l[m] x = true) ∧ (∀ m (h : m < l.length), q ≤ m → ltM l[m] x = false)) ∧ Gr w0 wr) (fun i j _ _ => (intOf j - intOf i).toNat)
  case atStart => exact ⟨0, n, rfl, rfl, Nat.zero_le _, Nat.le_refl _, Lib.hid ⟨fun m _ h => by omega, fun m h hm => by have := HL.out; omega⟩, Gr.refl _⟩
  case round =>
    obtain ⟨p, q, rfl, rfl, hpq, hqn, HI, hbw⟩ := hrel
    have hr := (hbw.below.block w.heap.size (by rw [HSZ.out]; omega)).trans HROW.out
    have HBW := Lib.hid (HG.out.trans hbw)
    by_cases hlt : p < q
    · obtain ⟨m, hm2⟩ : ∃ m, (p + q) / 2 = m := ⟨_, rfl⟩
      have hmn : p ≤ m ∧ m < q := by omega
      have hdiv : ((p : Int) + (q : Int)) / 2 = (m : Int) := by omega
      have lk : m < l.length := by rw [HL.out]; omega
      obtain ⟨b, o, y, rfl, hbB, hy, hcl⟩ := HH.out.at lk
      have hbl : b < w.heap.size := Nat.lt_of_lt_of_le hbB hB
      have hcg : ∀ j u, y[j]? = some u → ∀ n' os, (grow (wr.drewN n') os).cell? ⟨b, o + m * 2 + j, none⟩ = some u := fun j u hj n' os =>
        cell_grown (w := wr) (a := ⟨b, o + m * 2 + j, none⟩) (Nat.lt_of_lt_of_le hbl HBW.out.below.size) ((HBW.out.below.cell (p := ⟨b, o + m * 2 + j, none⟩) hbl).trans (hcl j u hj)) n' os
      obtain rfl : y = [.string l[m].role, .string l[m].of] := hy
      have c0 := hcg 0 _ rfl
      have c1 := hcg 1 _ rfl
      simp only [Nat.add_zero] at c0
      have hlr := lt_of_block hr
      have d0 := fun n' os => cell_grown (w := wr) (a := ⟨w.heap.size, 0, none⟩) hlr (box_at hr 0 rfl) n' os
      have d1 := fun n' os => cell_grown (w := wr) (a := ⟨w.heap.size, 1, none⟩) hlr (box_at hr 1 rfl) n' os
      have k0 : (0 : Int) ≤ (m : Int) := by omega
      have k1 : (m : Int) < (n : Int) := by omega
      have HC := Lib.hid (prog_memord_any l[m] x)
      have HMN := Lib.hid hmn
      clear hcg hcl hr hlr hm2
      by_cases hq : ltM l[m] x = true
      · have hq0 : decide (memOrd l[m] x < 0) = true := decide_eq_true (memOrd_lt.2 hq)
        have HN := Lib.hid (show (∀ j (h : j < l.length), j < m + 1 → ltM l[j] x = true) ∧ (∀ j (h : j < l.length), q ≤ j → ltM l[j] x = false) from ⟨fun j h hj => by
          by_cases e : j = m
          · subst e; exact hq
          · exact ltM_trans (HPW.out j m h lk (by omega)) hq, HI.out.2⟩)
        generalize l[m] = y at *
        generalize memOrd y x = cq at *
        clear hq hmn
        go_wp2_with fail
        refine Go.wp_region_quiet_grown mixed (by kernel_rfl) ?_
        repeat (go_big_quiet_step (first | (go_at_call 54; exact gr_call HC.out)))
        refine Go.wpQuiet_nil ?_
        intro _ hw'
        obtain ⟨⟨nq, osq⟩, hw''⟩ := hw'
        subst hw''
        go_wp2_with fail
        go_roundw
        case rel => exact ⟨m + 1, q, by go_num, rfl, HMN.out.2, hqn, HN, hbw.trans (Gr.grown _ _ _)⟩
        case measure => have := HMN.out; simp [intOf]; omega
      · have hq0 : decide (memOrd l[m] x < 0) = false := decide_eq_false fun h => hq (memOrd_lt.1 h)
        have HN := Lib.hid (show (∀ j (h : j < l.length), j < p → ltM l[j] x = true) ∧ (∀ j (h : j < l.length), m ≤ j → ltM l[j] x = false) from ⟨HI.out.1, fun j h hj => by
          have hq' : ltM l[m] x = false := Bool.eq_false_iff.2 hq
          by_cases e : j = m
          · subst e; exact hq'
          · cases hjx : ltM l[j] x with
            | false => rfl
            | true => exact absurd (ltM_trans (HPW.out m j lk h (by omega)) hjx) hq⟩)
        generalize l[m] = y at *
        generalize memOrd y x = cq at *
        clear hq hmn
        go_wp2_with fail
        refine Go.wp_region_quiet_grown mixed (by kernel_rfl) ?_
        repeat (go_big_quiet_step (first | (go_at_call 54; exact gr_call HC.out)))
        refine Go.wpQuiet_nil ?_
        intro _ hw'
        obtain ⟨⟨nq, osq⟩, hw''⟩ := hw'
        subst hw''
        go_wp2_with fail
        go_roundw
        case rel => exact ⟨p, m, rfl, by go_num, HMN.out.1, by have := HMN.out; omega, HN, hbw.trans (Gr.grown _ _ _)⟩
        case measure => have := HMN.out; simp [intOf]; omega
    · obtain rfl : p = q := by omega
      have HF := Lib.hid (posB_is (lt := ltM) (x := x) (l := l) (by rw [HL.out]; exact hqn) HI.out.1 HI.out.2)
      by_cases hpn : p < n
      · have lk : p < l.length := by rw [HL.out]; exact hpn
        obtain ⟨b, o, y, rfl, hbB, hy, hcl⟩ := HH.out.at lk
        have hbl : b < w.heap.size := Nat.lt_of_lt_of_le hbB hB
        have hcg : ∀ j u, y[j]? = some u → ∀ n' os, (grow (wr.drewN n') os).cell? ⟨b, o + p * 2 + j, none⟩ = some u := fun j u hj n' os =>
          cell_grown (w := wr) (a := ⟨b, o + p * 2 + j, none⟩) (Nat.lt_of_lt_of_le hbl HBW.out.below.size) ((HBW.out.below.cell (p := ⟨b, o + p * 2 + j, none⟩) hbl).trans (hcl j u hj)) n' os
        obtain rfl : y = [.string l[p].role, .string l[p].of] := hy
        have c0 := hcg 0 _ rfl
        have c1 := hcg 1 _ rfl
        simp only [Nat.add_zero] at c0
        have hlr := lt_of_block hr
        have d0 := fun n' os => cell_grown (w := wr) (a := ⟨w.heap.size, 0, none⟩) hlr (box_at hr 0 rfl) n' os
        have d1 := fun n' os => cell_grown (w := wr) (a := ⟨w.heap.size, 1, none⟩) hlr (box_at hr 1 rfl) n' os
        have k0 : (0 : Int) ≤ (p : Int) := by omega
        have k1 : (p : Int) < (n : Int) := by omega
        have g1 : decide ((p : Int) < (n : Int)) = true := decide_eq_true k1
        have HC := Lib.hid (prog_memord_any l[p] x)
        clear hcg hcl hr hlr
        generalize l[p] = y at *
        generalize memOrd y x = cq at *
        go_wp2_with fail
        refine Go.wp_region_quiet_grown mixed (by kernel_rfl) ?_
        repeat (go_big_quiet_step (first | (go_at_call 54; exact gr_call HC.out)))
        refine Go.wpQuiet_nil ?_
        intro _ hw'
        obtain ⟨⟨nq, osq⟩, hw''⟩ := hw'
        subst hw''
        go_wp2_with fail
        go_ret2
        exact ⟨_, by rw [HF.out]; rfl, HBW.out.trans (Gr.grown _ _ _)⟩
      · have k1 : ¬ (p : Int) < (n : Int) := by omega
        have g1 : decide ((p : Int) < (n : Int)) = false := decide_eq_false k1
        go_wp2_with fail
        refine Go.wp_region_quiet_grown mixed (by kernel_rfl) ?_
        repeat (go_big_quiet_step (fail))
        refine Go.wpQuiet_nil ?_
        intro _ hw'
        obtain ⟨⟨nq, osq⟩, hw''⟩ := hw'
        subst hw''
        go_wp2_with fail
        go_ret2
        exact ⟨_, by rw [HF.out]; rfl, HBW.out.trans (Gr.grown _ _ _)⟩

set_option maxRecDepth 100000 in
set_option maxHeartbeats 8000000 in
theorem prog_bsf_str (B : Nat) (a : Option Addr) (n c : Nat) (l : List ByteArray) (x : ByteArray) (w : World) (h : Lst w (· < B) strP 1 (.slice a n c) l) (hB : B ≤ w.heap.size) (hn : n ≤ 3000) (hp : l.Pairwise (fun a b => ltT a b = true)) :
    Calls Try.prog 64 #[.slice a n c, .string x, .func (.func 42) #[] #[]] w (BsfPost w (posB ltT x l)) := by
  have mixed := mixed_ok
  obtain ⟨hl, hc, hm⟩ := h.len
  unfold maxLen at hm
  have hpw : ∀ i j (hi : i < l.length) (hj : j < l.length), i < j → ltT l[i] l[j] = true := fun i j hi hj hij => List.pairwise_iff_getElem.1 hp i j hi hj hij
  have HL := Lib.hid hl; have HH := Lib.hid h; have HPW := Lib.hid hpw
  clear h hl hp hpw
  go_enter Try.func64, Try.ntmps64
  go_wp2_with fail
  go_loopw [9, 10, 11] (fun i j _ wr => ∃ p q : Nat, i = .int .i64 p ∧ j = .int .i64 q ∧ p ≤ q ∧ q ≤ n ∧ Hid ((∀ m (h : m < l.length), m < p → ltT l[m] x = true) ∧ (∀ m (h : m < l.length), q ≤ m → ltT l[m] x = false)) ∧ Gr w wr) (fun i j _ _ => (intOf j - intOf i).toNat)
  case atStart => exact ⟨0, n, rfl, rfl, Nat.zero_le _, Nat.le_refl _, Lib.hid ⟨fun m _ h => by omega, fun m h hm => by have := HL.out; omega⟩, Gr.refl _⟩
  case round =>
    obtain ⟨p, q, rfl, rfl, hpq, hqn, HI, hbw⟩ := hrel
    have HBW := Lib.hid (hbw)
    by_cases hlt : p < q
    · obtain ⟨m, hm2⟩ : ∃ m, (p + q) / 2 = m := ⟨_, rfl⟩
      have hmn : p ≤ m ∧ m < q := by omega
      have hdiv : ((p : Int) + (q : Int)) / 2 = (m : Int) := by omega
      have lk : m < l.length := by rw [HL.out]; omega
      obtain ⟨b, o, y, rfl, hbB, hy, hcl⟩ := HH.out.at lk
      have hbl : b < w.heap.size := Nat.lt_of_lt_of_le hbB hB
      have hcg : ∀ j u, y[j]? = some u → wr.cell? ⟨b, o + m * 1 + j, none⟩ = some u := fun j u hj => (HBW.out.below.cell (p := ⟨b, o + m * 1 + j, none⟩) hbl).trans (hcl j u hj)
      obtain rfl : y = [.string l[m]] := hy
      have c0 := hcg 0 _ rfl
      simp only [Nat.add_zero, Nat.mul_one] at c0
      have k0 : (0 : Int) ≤ (m : Int) := by omega
      have k1 : (m : Int) < (n : Int) := by omega
      have HC := Lib.hid (prog_strcmp_any l[m] x)
      have HMN := Lib.hid hmn
      clear hcg hcl hm2
      by_cases hq : ltT l[m] x = true
      · have hq0 : decide (cmpI l[m] x < 0) = true := decide_eq_true (cmpI_lt.2 hq)
        have HN := Lib.hid (show (∀ j (h : j < l.length), j < m + 1 → ltT l[j] x = true) ∧ (∀ j (h : j < l.length), q ≤ j → ltT l[j] x = false) from ⟨fun j h hj => by
          by_cases e : j = m
          · subst e; exact hq
          · exact ltT_trans (HPW.out j m h lk (by omega)) hq, HI.out.2⟩)
        generalize l[m] = y at *
        generalize cmpI y x = cq at *
        clear hq hmn
        go_wp2_with (go_at_call 42; refine (HC.out _).mono ?_; rintro e w' ⟨rfl, rfl⟩)
        go_roundw
        case rel => exact ⟨m + 1, q, by go_num, rfl, HMN.out.2, hqn, HN, hbw⟩
        case measure => have := HMN.out; simp [intOf]; omega
      · have hq0 : decide (cmpI l[m] x < 0) = false := decide_eq_false fun h => hq (cmpI_lt.1 h)
        have HN := Lib.hid (show (∀ j (h : j < l.length), j < p → ltT l[j] x = true) ∧ (∀ j (h : j < l.length), m ≤ j → ltT l[j] x = false) from ⟨HI.out.1, fun j h hj => by
          have hq' : ltT l[m] x = false := Bool.eq_false_iff.2 hq
          by_cases e : j = m
          · subst e; exact hq'
          · cases hjx : ltT l[j] x with
            | false => rfl
            | true => exact absurd (ltT_trans (HPW.out m j lk h (by omega)) hjx) hq⟩)
        generalize l[m] = y at *
        generalize cmpI y x = cq at *
        clear hq hmn
        go_wp2_with (go_at_call 42; refine (HC.out _).mono ?_; rintro e w' ⟨rfl, rfl⟩)
        go_roundw
        case rel => exact ⟨p, m, rfl, by go_num, HMN.out.1, by have := HMN.out; omega, HN, hbw⟩
        case measure => have := HMN.out; simp [intOf]; omega
    · obtain rfl : p = q := by omega
      have HF := Lib.hid (posB_is (lt := ltT) (x := x) (l := l) (by rw [HL.out]; exact hqn) HI.out.1 HI.out.2)
      by_cases hpn : p < n
      · have lk : p < l.length := by rw [HL.out]; exact hpn
        obtain ⟨b, o, y, rfl, hbB, hy, hcl⟩ := HH.out.at lk
        have hbl : b < w.heap.size := Nat.lt_of_lt_of_le hbB hB
        have hcg : ∀ j u, y[j]? = some u → wr.cell? ⟨b, o + p * 1 + j, none⟩ = some u := fun j u hj => (HBW.out.below.cell (p := ⟨b, o + p * 1 + j, none⟩) hbl).trans (hcl j u hj)
        obtain rfl : y = [.string l[p]] := hy
        have c0 := hcg 0 _ rfl
        simp only [Nat.add_zero, Nat.mul_one] at c0
        have k0 : (0 : Int) ≤ (p : Int) := by omega
        have k1 : (p : Int) < (n : Int) := by omega
        have g1 : decide ((p : Int) < (n : Int)) = true := decide_eq_true k1
        have HC := Lib.hid (prog_strcmp_any l[p] x)
        clear hcg hcl
        generalize l[p] = y at *
        generalize cmpI y x = cq at *
        go_wp2_with (go_at_call 42; refine (HC.out _).mono ?_; rintro e w' ⟨rfl, rfl⟩)
        go_ret2
        exact ⟨_, by rw [HF.out]; rfl, HBW.out⟩
      · have k1 : ¬ (p : Int) < (n : Int) := by omega
        have g1 : decide ((p : Int) < (n : Int)) = false := decide_eq_false k1
        go_wp2_with fail
        go_ret2
        exact ⟨_, by rw [HF.out]; rfl, HBW.out⟩

theorem lit_mem' (w : World) (x : Mem) (S : Nat → Prop) (hS : S w.heap.size) : Lst (w.alloc (.cells #[.string x.role, .string x.of] 45)) S (memQ (w.alloc (.cells #[.string x.role, .string x.of] 45)) S) 2 (.slice (some ⟨w.heap.size, 0, none⟩) 1 1) [x] :=
  Lst.row [[.string x.role, .string x.of]] (heap_alloc_new w _) (by simp) hS rfl rfl (by unfold maxLen; omega) fun i z y hz hy => by
    cases i with
    | zero => simp at hz hy; subst hz hy; rfl
    | succ i => simp at hz
/-- The three parts, joined. -/
theorem join_mem (W : World) (B : Nat) (hB : B ≤ W.heap.size) (v1 v2 : Value) (l1 l2 : List Mem) (x : Mem) (h1 : Lst W (· < B) memP 2 v1 l1) (h2 : Lst W (· < B) memP 2 v2 l2) (hn : l1.length + l2.length ≤ 4000) :
    Calls Try.prog 67 #[.slice (some ⟨W.heap.size + 1, 0, none⟩) 3 3] ((W.alloc (.cells #[.string x.role, .string x.of] 45)).alloc (.cells #[v1, .slice (some ⟨W.heap.size, 0, none⟩) 1 1, v2] 23)).drew (InsLPost memQ W 45 2 (l1 ++ ([x] ++ l2))) := by
  have hal := (Below.refl W.heap.size W).alloc (Nat.le_refl _) (.cells #[.string x.role, .string x.of] 45)
  have hs1 := size_box W (.cells #[.string x.role, .string x.of] 45)
  have hk : Keeps (· < B) W (W.alloc (.cells #[.string x.role, .string x.of] 45)) := Keeps.of_below hal fun k hk => Nat.lt_of_lt_of_le hk hB
  have hlt := listed mem_stays (w := (W.alloc (.cells #[.string x.role, .string x.of] 45)).drew) (S := (· < W.heap.size + 1)) [v1, .slice (some ⟨W.heap.size, 0, none⟩) 1 1, v2] [l1, [x], l2] 23 rfl (show 3 ≤ maxLen by unfold maxLen; decide) (fun k hk => by show k < (W.alloc (.cells #[.string x.role, .string x.of] 45)).heap.size; omega) fun i v y hi hy => by
    match i, hi, hy with
    | 0, hi, hy => simp only [List.getElem?_cons_zero, Option.some.injEq] at hi hy; subst hi hy; exact h1.keep (fun k hk => by omega) hk.drew fun _ _ _ h => h
    | 1, hi, hy => simp only [List.getElem?_cons_succ, List.getElem?_cons_zero, Option.some.injEq] at hi hy; subst hi hy; exact lit_mem' W x _ (by omega)
    | 2, hi, hy => simp only [List.getElem?_cons_succ, List.getElem?_cons_zero, Option.some.injEq] at hi hy; subst hi hy; exact h2.keep (fun k hk => by omega) hk.drew fun _ _ _ h => h
    | i + 3, hi, _ => simp at hi
  have hs2 := size_box (W.alloc (.cells #[.string x.role, .string x.of] 45)).drew (.cells #[v1, .slice (some ⟨W.heap.size, 0, none⟩) 1 1, v2] 23)
  have hs0 : (W.alloc (.cells #[.string x.role, .string x.of] 45)).drew.heap.size = W.heap.size + 1 := hs1
  rw [hs0] at hs2
  have hlt2 : Lst (((W.alloc (.cells #[.string x.role, .string x.of] 45)).drew).alloc (.cells #[v1, .slice (some ⟨W.heap.size, 0, none⟩) 1 1, v2] 23)) (· < (((W.alloc (.cells #[.string x.role, .string x.of] 45)).drew).alloc (.cells #[v1, .slice (some ⟨W.heap.size, 0, none⟩) 1 1, v2] 23)).heap.size) (lstP memQ (((W.alloc (.cells #[.string x.role, .string x.of] 45)).drew).alloc (.cells #[v1, .slice (some ⟨W.heap.size, 0, none⟩) 1 1, v2] 23)) (· < W.heap.size + 1) 2) 1 (.slice (some ⟨W.heap.size + 1, 0, none⟩) 3 3) [l1, [x], l2] := by
    have := hlt
    rw [hs0] at this
    exact this
  have HC := prog_concat_mem _ 3 3 (· < W.heap.size + 1) [l1, [x], l2] (((W.alloc (.cells #[.string x.role, .string x.of] 45)).drew).alloc (.cells #[v1, .slice (some ⟨W.heap.size, 0, none⟩) 1 1, v2] 23)) hlt2 (fun k hk => by omega)
    (by unfold lenT; simp only [List.flatten_cons, List.flatten_nil, List.append_nil, List.length_append, List.length_singleton]; omega)
  refine (show Calls Try.prog 67 _ _ _ from HC).mono ?_
  rintro e w' ⟨v, rfl, hv, hb⟩
  have he : [l1, [x], l2].flatten = l1 ++ ([x] ++ l2) := by simp
  rw [he] at hv
  have hbw : Below W.heap.size W (((W.alloc (.cells #[.string x.role, .string x.of] 45)).drew).alloc (.cells #[v1, .slice (some ⟨W.heap.size, 0, none⟩) 1 1, v2] 23)) := (below_drawn hal 1).alloc (by show W.heap.size ≤ (W.alloc _).heap.size; omega) _
  exact ⟨v, rfl, (hv.flat fun h => h).mono mem_stays (by omega), below_on hbw (Nat.le_refl _) hb⟩

set_option maxRecDepth 100000 in
set_option maxHeartbeats 8000000 in
theorem prog_insert_mem (B : Nat) (a : Option Addr) (n c : Nat) (l : List Mem) (x : Mem) (w : World) (h : Lst w (· < B) memP 2 (.slice a n c) l) (hB : B ≤ w.heap.size) (hn : n ≤ 3000) (hp : l.Pairwise (fun a b => ltM a b = true)) (hne : ∀ y ∈ l, ltM y x = !(ltM x y)) :
    Calls Try.prog 53 #[.slice a n c, .agg #[.string x.role, .string x.of], .func (.func 54) #[] #[]] w (InsLPost memQ w 45 2 (insBy ltM x l)) := by
  obtain ⟨hl, hc, hm⟩ := h.len
  unfold maxLen at hm
  have hpl := posB_le ltM x l
  have hib := insBy_posB hne
  have hal0 := (Below.refl w.heap.size w).alloc (Nat.le_refl _) (.cells #[.string x.role, .string x.of] 45)
  have hg0 := Gr.alloc w (.cells #[.string x.role, .string x.of] 45)
  have hrow := heap_alloc_new w (.cells #[.string x.role, .string x.of] 45)
  have hk0 := keeps_alloc w B (.cells #[.string x.role, .string x.of] 45)
  have x0 := box_at hrow 0 rfl
  have x1 := box_at hrow 1 rfl
  have HBS := Lib.hid (prog_bsf_mem B a n c l x _ (mems_keep h (fun _ h => h) hk0) (Nat.le_trans hB hal0.size) hn hp)
  have HG0 := Lib.hid hg0; have HROW := Lib.hid hrow
  generalize hpp : posB ltM x l = p at *
  have HH := Lib.hid h; have HL := Lib.hid hl; have HIB := Lib.hid hib; have HB := Lib.hid hB; have HPL := Lib.hid hpl; have HN := Lib.hid hn
  clear h hib hp hne hpp hB hal0 hg0 hrow hk0 
  have k0 : (0 : Int) ≤ (p : Int) := by omega
  have k1 : (p : Int) ≤ (c : Int) := by omega
  have k2 : (p : Int) ≤ (n : Int) := by omega
  have k3 : (n : Int) ≤ (c : Int) := by omega
  go_enter Try.func53, Try.ntmps53
  go_wp2_with fail
  generalize World.alloc w _ = w1 at *
  refine HBS.out.mono ?_
  rintro e w2 ⟨f, rfl, g2⟩
  have HG := Lib.hid (HG0.out.trans g2)
  have hr2 := (g2.below.block w.heap.size (lt_of_block HROW.out)).trans HROW.out
  have y0 := box_at hr2 0 rfl
  have y1 := box_at hr2 1 rfl
  have hl2 := lt_of_block hr2
  clear g2 hr2 x0 x1
  have h2 := HH.out.keep (w' := w2) (S' := (· < B)) (Q := memP) (fun _ h => h) (HG.out.keeps fun k hk => Nat.lt_of_lt_of_le hk HB.out) fun _ _ _ h => h
  have hB2 := Nat.le_trans HB.out HG.out.below.size
  have h1 := h2.take (k := p) (by have := HPL.out; have := HL.out; omega)
  have hlen : (l.take p).length + (l.drop p).length ≤ 4000 := by rw [← List.length_append, List.take_append_drop]; have := HL.out; have := HN.out; omega
  by_cases h0 : n = 0
  · subst h0
    have hp0 : p = 0 := by have := HPL.out; have := HL.out; omega
    subst hp0
    have hl0 : l = [] := List.eq_nil_of_length_eq_zero HL.out
    have hd : ∀ (a' : Option Addr) (c' : Nat), c' ≤ c → Lst w2 (· < B) memP 2 (.slice a' 0 c') (l.drop 0) := fun a' c' hc' => by rw [hl0]; exact Lst.none a' c' (by unfold maxLen; omega)
    cases a with
    | none =>
      have HC := Lib.hid (join_mem w2 B hB2 (.slice none 0 c) (.slice none 0 c) (l.take 0) (l.drop 0) x h1 (hd _ _ (by omega)) hlen)
      rw [HIB.out] at HC
      clear h1 h2 hlen hd
      go_wp2_with fail
      go_region_law (first
        | (go_simp
           refine HC.out.mono ?_
           intro e w' hp
           obtain ⟨v, rfl, hv, hb⟩ := hp
           have HV := Lib.hid (hv.mono mem_stays HG.out.below.size); have HBB := Lib.hid (below_on HG.out.below (Nat.le_refl _) hb)
           clear hv hb))
      all_goals
        go_wp2_with fail
        all_goals (go_ret; exact ⟨_, rfl, HV.out, HBB.out⟩)
    | some ad =>
      have HC := Lib.hid (join_mem w2 B hB2 (.slice (some ad) 0 c) (.slice (some ad) 0 c) (l.take 0) (l.drop 0) x h1 (hd _ _ (by omega)) hlen)
      rw [HIB.out] at HC
      clear h1 h2 hlen hd
      go_wp2_with fail
      go_region_law (first
        | (go_simp
           refine HC.out.mono ?_
           intro e w' hp
           obtain ⟨v, rfl, hv, hb⟩ := hp
           have HV := Lib.hid (hv.mono mem_stays HG.out.below.size); have HBB := Lib.hid (below_on HG.out.below (Nat.le_refl _) hb)
           clear hv hb))
      all_goals
        go_wp2_with fail
        all_goals (go_ret; exact ⟨_, rfl, HV.out, HBB.out⟩)
  · have hkl : 0 < l.length := by have := HL.out; omega
    obtain ⟨b, o, z, rfl, -, -, -⟩ := h2.at hkl
    have hd : Lst w2 (· < B) memP 2 (.slice (if c = p then some ⟨b, o, none⟩ else some ⟨b, o + p * 2, none⟩) (n - p) (c - p)) (l.drop p) := by
      split
      · rename_i hcc
        have e1 : n - p = 0 := by have := HPL.out; have := HL.out; omega
        rw [e1, List.drop_of_length_le (by have := HL.out; omega)]
        exact Lst.none _ _ (by unfold maxLen; omega)
      · have h9 := h2.dropped (k := p) (by have := HPL.out; have := HL.out; omega)
        exact h9
    have HC := Lib.hid (join_mem w2 B hB2 (.slice (some ⟨b, o, none⟩) p c) (.slice (if c = p then some ⟨b, o, none⟩ else some ⟨b, o + p * 2, none⟩) (n - p) (c - p)) (l.take p) (l.drop p) x h1 hd hlen)
    rw [HIB.out] at HC
    clear h1 h2 hlen hd
    go_wp2_with fail
    go_region_law (first
      | (go_simp
         refine HC.out.mono ?_
         intro e w' hp
         obtain ⟨v, rfl, hv, hb⟩ := hp
         have HV := Lib.hid (hv.mono mem_stays HG.out.below.size); have HBB := Lib.hid (below_on HG.out.below (Nat.le_refl _) hb)
         clear hv hb))
    all_goals
      go_wp2_with fail
      all_goals (go_ret; exact ⟨_, rfl, HV.out, HBB.out⟩)

theorem lit_str' (w : World) (x : ByteArray) (S : Nat → Prop) (hS : S w.heap.size) : Lst (w.alloc (.cells #[.string x] 9)) S (strQ (w.alloc (.cells #[.string x] 9)) S) 1 (.slice (some ⟨w.heap.size, 0, none⟩) 1 1) [x] :=
  Lst.row [[.string x]] (heap_alloc_new w _) (by simp) hS rfl rfl (by unfold maxLen; omega) fun i z y hz hy => by
    cases i with
    | zero => simp at hz hy; subst hz hy; rfl
    | succ i => simp at hz
/-- The three parts, joined. -/
theorem join_str (W : World) (B : Nat) (hB : B ≤ W.heap.size) (v1 v2 : Value) (l1 l2 : List ByteArray) (x : ByteArray) (h1 : Lst W (· < B) strP 1 v1 l1) (h2 : Lst W (· < B) strP 1 v2 l2) (hn : l1.length + l2.length ≤ 4000) :
    Calls Try.prog 65 #[.slice (some ⟨W.heap.size + 1, 0, none⟩) 3 3] ((W.alloc (.cells #[.string x] 9)).alloc (.cells #[v1, .slice (some ⟨W.heap.size, 0, none⟩) 1 1, v2] 22)).drew (InsLPost strQ W 9 1 (l1 ++ ([x] ++ l2))) := by
  have hal := (Below.refl W.heap.size W).alloc (Nat.le_refl _) (.cells #[.string x] 9)
  have hs1 := size_box W (.cells #[.string x] 9)
  have hk : Keeps (· < B) W (W.alloc (.cells #[.string x] 9)) := Keeps.of_below hal fun k hk => Nat.lt_of_lt_of_le hk hB
  have hlt := listed str_stays (w := (W.alloc (.cells #[.string x] 9)).drew) (S := (· < W.heap.size + 1)) [v1, .slice (some ⟨W.heap.size, 0, none⟩) 1 1, v2] [l1, [x], l2] 22 rfl (show 3 ≤ maxLen by unfold maxLen; decide) (fun k hk => by show k < (W.alloc (.cells #[.string x] 9)).heap.size; omega) fun i v y hi hy => by
    match i, hi, hy with
    | 0, hi, hy => simp only [List.getElem?_cons_zero, Option.some.injEq] at hi hy; subst hi hy; exact h1.keep (fun k hk => by omega) hk.drew fun _ _ _ h => h
    | 1, hi, hy => simp only [List.getElem?_cons_succ, List.getElem?_cons_zero, Option.some.injEq] at hi hy; subst hi hy; exact lit_str' W x _ (by omega)
    | 2, hi, hy => simp only [List.getElem?_cons_succ, List.getElem?_cons_zero, Option.some.injEq] at hi hy; subst hi hy; exact h2.keep (fun k hk => by omega) hk.drew fun _ _ _ h => h
    | i + 3, hi, _ => simp at hi
  have hs2 := size_box (W.alloc (.cells #[.string x] 9)).drew (.cells #[v1, .slice (some ⟨W.heap.size, 0, none⟩) 1 1, v2] 22)
  have hs0 : (W.alloc (.cells #[.string x] 9)).drew.heap.size = W.heap.size + 1 := hs1
  rw [hs0] at hs2
  have hlt2 : Lst (((W.alloc (.cells #[.string x] 9)).drew).alloc (.cells #[v1, .slice (some ⟨W.heap.size, 0, none⟩) 1 1, v2] 22)) (· < (((W.alloc (.cells #[.string x] 9)).drew).alloc (.cells #[v1, .slice (some ⟨W.heap.size, 0, none⟩) 1 1, v2] 22)).heap.size) (lstP strQ (((W.alloc (.cells #[.string x] 9)).drew).alloc (.cells #[v1, .slice (some ⟨W.heap.size, 0, none⟩) 1 1, v2] 22)) (· < W.heap.size + 1) 1) 1 (.slice (some ⟨W.heap.size + 1, 0, none⟩) 3 3) [l1, [x], l2] := by
    have := hlt
    rw [hs0] at this
    exact this
  have HC := prog_concat_str _ 3 3 (· < W.heap.size + 1) [l1, [x], l2] (((W.alloc (.cells #[.string x] 9)).drew).alloc (.cells #[v1, .slice (some ⟨W.heap.size, 0, none⟩) 1 1, v2] 22)) hlt2 (fun k hk => by omega)
    (by unfold lenT; simp only [List.flatten_cons, List.flatten_nil, List.append_nil, List.length_append, List.length_singleton]; omega)
  refine (show Calls Try.prog 65 _ _ _ from HC).mono ?_
  rintro e w' ⟨v, rfl, hv, hb⟩
  have he : [l1, [x], l2].flatten = l1 ++ ([x] ++ l2) := by simp
  rw [he] at hv
  have hbw : Below W.heap.size W (((W.alloc (.cells #[.string x] 9)).drew).alloc (.cells #[v1, .slice (some ⟨W.heap.size, 0, none⟩) 1 1, v2] 22)) := (below_drawn hal 1).alloc (by show W.heap.size ≤ (W.alloc _).heap.size; omega) _
  exact ⟨v, rfl, (hv.flat fun h => h).mono str_stays (by omega), below_on hbw (Nat.le_refl _) hb⟩

set_option maxRecDepth 100000 in
set_option maxHeartbeats 8000000 in
theorem prog_insert_str (B : Nat) (a : Option Addr) (n c : Nat) (l : List ByteArray) (x : ByteArray) (w : World) (h : Lst w (· < B) strP 1 (.slice a n c) l) (hB : B ≤ w.heap.size) (hn : n ≤ 3000) (hp : l.Pairwise (fun a b => ltT a b = true)) (hne : ∀ y ∈ l, ltT y x = !(ltT x y)) :
    Calls Try.prog 41 #[.slice a n c, .string x, .func (.func 42) #[] #[]] w (InsLPost strQ w 9 1 (insBy ltT x l)) := by
  obtain ⟨hl, hc, hm⟩ := h.len
  unfold maxLen at hm
  have hpl := posB_le ltT x l
  have hib := insBy_posB hne
  have HBS := Lib.hid (prog_bsf_str B a n c l x w h hB hn hp)
  generalize hpp : posB ltT x l = p at *
  have HH := Lib.hid h; have HL := Lib.hid hl; have HIB := Lib.hid hib; have HB := Lib.hid hB; have HPL := Lib.hid hpl; have HN := Lib.hid hn
  clear h hib hp hne hpp hB 
  have k0 : (0 : Int) ≤ (p : Int) := by omega
  have k1 : (p : Int) ≤ (c : Int) := by omega
  have k2 : (p : Int) ≤ (n : Int) := by omega
  have k3 : (n : Int) ≤ (c : Int) := by omega
  go_enter Try.func41, Try.ntmps41
  go_wp2_with fail
  refine HBS.out.mono ?_
  rintro e w2 ⟨f, rfl, g2⟩
  have HG := Lib.hid g2
  clear g2
  have h2 := HH.out.keep (w' := w2) (S' := (· < B)) (Q := strP) (fun _ h => h) (HG.out.keeps fun k hk => Nat.lt_of_lt_of_le hk HB.out) fun _ _ _ h => h
  have hB2 := Nat.le_trans HB.out HG.out.below.size
  have h1 := h2.take (k := p) (by have := HPL.out; have := HL.out; omega)
  have hlen : (l.take p).length + (l.drop p).length ≤ 4000 := by rw [← List.length_append, List.take_append_drop]; have := HL.out; have := HN.out; omega
  by_cases h0 : n = 0
  · subst h0
    have hp0 : p = 0 := by have := HPL.out; have := HL.out; omega
    subst hp0
    have hl0 : l = [] := List.eq_nil_of_length_eq_zero HL.out
    have hd : ∀ (a' : Option Addr) (c' : Nat), c' ≤ c → Lst w2 (· < B) strP 1 (.slice a' 0 c') (l.drop 0) := fun a' c' hc' => by rw [hl0]; exact Lst.none a' c' (by unfold maxLen; omega)
    cases a with
    | none =>
      have HC := Lib.hid (join_str w2 B hB2 (.slice none 0 c) (.slice none 0 c) (l.take 0) (l.drop 0) x h1 (hd _ _ (by omega)) hlen)
      rw [HIB.out] at HC
      clear h1 h2 hlen hd
      go_wp2_with fail
      go_region_law (first
        | (go_simp
           refine HC.out.mono ?_
           intro e w' hp
           obtain ⟨v, rfl, hv, hb⟩ := hp
           have HV := Lib.hid (hv.mono str_stays HG.out.below.size); have HBB := Lib.hid (below_on HG.out.below (Nat.le_refl _) hb)
           clear hv hb))
      all_goals
        go_wp2_with fail
        all_goals (go_ret; exact ⟨_, rfl, HV.out, HBB.out⟩)
    | some ad =>
      have HC := Lib.hid (join_str w2 B hB2 (.slice (some ad) 0 c) (.slice (some ad) 0 c) (l.take 0) (l.drop 0) x h1 (hd _ _ (by omega)) hlen)
      rw [HIB.out] at HC
      clear h1 h2 hlen hd
      go_wp2_with fail
      go_region_law (first
        | (go_simp
           refine HC.out.mono ?_
           intro e w' hp
           obtain ⟨v, rfl, hv, hb⟩ := hp
           have HV := Lib.hid (hv.mono str_stays HG.out.below.size); have HBB := Lib.hid (below_on HG.out.below (Nat.le_refl _) hb)
           clear hv hb))
      all_goals
        go_wp2_with fail
        all_goals (go_ret; exact ⟨_, rfl, HV.out, HBB.out⟩)
  · have hkl : 0 < l.length := by have := HL.out; omega
    obtain ⟨b, o, z, rfl, -, -, -⟩ := h2.at hkl
    have hd : Lst w2 (· < B) strP 1 (.slice (if c = p then some ⟨b, o, none⟩ else some ⟨b, o + p, none⟩) (n - p) (c - p)) (l.drop p) := by
      split
      · rename_i hcc
        have e1 : n - p = 0 := by have := HPL.out; have := HL.out; omega
        rw [e1, List.drop_of_length_le (by have := HL.out; omega)]
        exact Lst.none _ _ (by unfold maxLen; omega)
      · have h9 := h2.dropped (k := p) (by have := HPL.out; have := HL.out; omega)
        rw [Nat.mul_one] at h9
        exact h9
    have HC := Lib.hid (join_str w2 B hB2 (.slice (some ⟨b, o, none⟩) p c) (.slice (if c = p then some ⟨b, o, none⟩ else some ⟨b, o + p, none⟩) (n - p) (c - p)) (l.take p) (l.drop p) x h1 hd hlen)
    rw [HIB.out] at HC
    clear h1 h2 hlen hd
    go_wp2_with fail
    go_region_law (first
      | (go_simp
         refine HC.out.mono ?_
         intro e w' hp
         obtain ⟨v, rfl, hv, hb⟩ := hp
         have HV := Lib.hid (hv.mono str_stays HG.out.below.size); have HBB := Lib.hid (below_on HG.out.below (Nat.le_refl _) hb)
         clear hv hb))
    all_goals
      go_wp2_with fail
      all_goals (go_ret; exact ⟨_, rfl, HV.out, HBB.out⟩)
end Go.Proofs.Ytekhkmhpeefenaa
