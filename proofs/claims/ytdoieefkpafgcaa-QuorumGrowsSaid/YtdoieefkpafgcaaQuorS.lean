/-
  quorum's Sure, by contract: what is had is laid in falling order by Go's own sort; the one at the majority's place is what a majority has.
-/
import Derived.Test.YtdoieefkpafgcaaQuorP
import Derived.Test.YtdoieefkpafgcaaSortL
import Derived.Test.YtdoieefkpafgcaaSetsC
import Derived.Lib.SortBridge
namespace Go.Proofs.Ytdoieefkpafgcaa
open Go.Shelf Go.RowKit Go.Lib Go.Sort

/-- The comparison: greater ones first. -/
def cfD (x y : Int) : Int := Lib.compareInt y x
theorem ltD (x y : Int) : ltOf cfD x y = decide (y < x) := by
  unfold ltOf cfD Lib.compareInt
  by_cases h1 : y < x
  · simp [h1]
  · by_cases h2 : x < y <;> simp [h1, h2]
theorem swoD : SWO (ltOf cfD) where
  irrefl x := by rw [ltD]; simp
  trans x y z h1 h2 := by rw [ltD] at *; simp at *; omega
  ntrans x y z h1 h2 := by rw [ltD] at *; simp at *; omega
theorem totD (x y : Int) (h1 : ltOf cfD x y = false) (h2 : ltOf cfD y x = false) : x = y := by rw [ltD] at *; simp at *; omega
theorem geD : (fun x y : Int => !ltOf cfD y x) = fun x y => decide (y ≤ x) := by
  funext x y
  rw [ltD]
  by_cases h : y ≤ x
  · have h' : ¬ x < y := by omega
    simp [h, h']
  · have h' : x < y := by omega
    simp [h, h']
/-- A row in falling order. -/
def fall (l : List Int) : List Int := l.mergeSort fun x y => decide (y ≤ x)
theorem fall_perm (l : List Int) : (fall l).Perm l := List.mergeSort_perm _ _
theorem fall_sorted (l : List Int) : (fall l).Pairwise fun x y => y ≤ x := by
  have h := List.pairwise_mergeSort (le := fun x y : Int => decide (y ≤ x)) (fun a b c h1 h2 => by simp at *; omega) (fun a b => by simp; omega) l
  exact h.imp (by simp)
theorem ge_perm {x : Int} {l m : List Int} (h : l.Perm m) : ge x l = ge x m := (h.filter _).length_eq
theorem ge_cons (x y : Int) (l : List Int) : ge x (y :: l) = (if x ≤ y then 1 else 0) + ge x l := by
  unfold ge
  rw [List.filter_cons]
  by_cases h : x ≤ y
  · simp [h]; omega
  · simp [h]
/-- Of a falling row all up to a place are the number there or more. -/
theorem ge_at {l : List Int} (hs : l.Pairwise fun x y => y ≤ x) {k : Nat} (h : k < l.length) : k < ge l[k] l := by
  have h1 : (l.take (k + 1)).filter (fun y => decide (l[k] ≤ y)) = l.take (k + 1) := by
    rw [List.filter_eq_self]
    intro x hx
    obtain ⟨i, hi, rfl⟩ := List.mem_iff_getElem.1 hx
    rw [List.length_take] at hi
    rw [List.getElem_take]
    by_cases hik : i = k
    · subst hik; simp
    · have := (List.pairwise_iff_getElem.1 hs) i k (by omega) h (by omega)
      simpa using this
  have h2 : ((l.take (k + 1)).filter fun y => decide (l[k] ≤ y)).length ≤ ge l[k] l := by
    unfold ge
    exact ((List.take_sublist _ _).filter _).length_le
  rw [h1, List.length_take] at h2
  omega
theorem ge_above {l : List Int} (hs : l.Pairwise fun x y => y ≤ x) {k : Nat} (h : k < l.length) {x : Int} (hx : l[k] < x) : ge x l ≤ k := by
  have h1 : (l.drop k).filter (fun y => decide (x ≤ y)) = [] := by
    rw [List.filter_eq_nil_iff]
    intro y hy
    obtain ⟨i, hi, rfl⟩ := List.mem_iff_getElem.1 hy
    rw [List.length_drop] at hi
    rw [List.getElem_drop]
    by_cases hi0 : i = 0
    · subst hi0; simp; omega
    · have := (List.pairwise_iff_getElem.1 hs) k (k + i) h (by omega) (by omega)
      simp; omega
  unfold ge
  rw [← List.take_append_drop k l, List.filter_append, h1, List.append_nil]
  exact Nat.le_trans (List.length_filter_le _ _) (List.length_take_le _ _)
/-- The one at the majority's place of a falling row is what a majority has. -/
theorem sure_fall {l : List Int} {k : Nat} (hk : k = l.length / 2) (h : k < (fall l).length) : SureIs l (fall l)[k] := by
  have hl : (fall l).length = l.length := (fall_perm l).length_eq
  have hs := fall_sorted l
  refine ⟨(fall_perm l).mem_iff.1 (List.getElem_mem h), ?_, fun x hx hxe => ?_⟩
  · have := ge_at hs h
    rw [ge_perm (fall_perm l)] at this
    omega
  · rcases Int.lt_or_le (fall l)[k] x with hlt | hle
    · have := ge_above hs h hlt
      rw [ge_perm (fall_perm l)] at this
      omega
    · exact hle

/-- The comparison in the struct's field. -/
theorem falls (x y : Int) (W : World) : Calls Try.prog 27 #[.int .i64 x, .int .i64 y] W fun e w' => e = .returned (.int .i64 (cfD x y)) ∧ ∃ q, w' = W.drewN q := by
  have hcon := cmp_Compare_int y x W
  unfold cfD
  generalize Lib.compareInt y x = r at hcon ⊢
  go_enter Try.func27, Try.ntmps27
  go_wp2_with (go_at_call 28; refine hcon.mono ?_; rintro e w' ⟨rfl, rfl⟩)
  go_ret
  exact ⟨rfl, 0, rfl⟩
theorem falls_reads (blk off size : Nat) (w : World) : CmpReads Try.prog 27 #[] (Value.int .i64) cfD blk off size w := fun _ _ _ _ x y => falls x y _
/-- Go's sort over a row of a block. -/
theorem sort_falls (blk off n c : Nat) (xs : List Int) (hl : xs.length = n) (hn : n ≤ 1000) (w : World) (hH : Holds (Value.int .i64) w blk off xs.toArray) (hblk : blk < w.heap.size) :
    Calls Try.prog 33 #[.slice (some ⟨blk, off, none⟩) n c, .func (.func 27) #[] #[]] w fun e w' =>
      e = .returned (.tuple #[]) ∧ ∃ n os, w' = grow (putRow (Value.int .i64) (Sort.ahead w n) blk off (fall xs).toArray) os := by
  have eg : ∀ args w, (callFunc 27 args).run Try.prog w = .ok (.enter 27 args) w := enters_of Try.func27 (by kernel_rfl) rfl
  have hS := slices_SortFunc_total (Value.int .i64) (fun _ => rfl) cfD swoD 27 #[] blk off c xs.toArray w eg (falls_reads blk off xs.toArray.size w).lays hH hblk (by simp; omega) totD
  rw [geD] at hS
  have hsz : xs.toArray.size = n := by simpa using hl
  rw [hsz] at hS
  exact hS.mono fun e w' ⟨he, q, os, hw⟩ => ⟨he, q, os, by rw [hw]; rfl⟩

theorem setCells_other' {b k : Nat} (hk : k ≠ b) : ∀ (vs : List Value) (o : Nat) (w : World), (w.setCells b o vs).heap[k]? = w.heap[k]?
  | [], _, _ => rfl
  | v :: r, o, w => by exact (setCells_other' hk r (o + 1) _).trans (by simp [World.setCell, Array.getElem?_modify, Ne.symm hk])
theorem setCells_shape' (b : Nat) : ∀ (vs : List Value) (o : Nat) (w : World), (w.setCells b o vs).heap.size = w.heap.size ∧ (w.setCells b o vs).os = w.os ∧ (w.setCells b o vs).tape = w.tape ∧ (w.setCells b o vs).output = w.output
  | [], _, _ => ⟨rfl, rfl, rfl, rfl⟩
  | v :: r, o, w => by
    obtain ⟨h1, h2, h3, h4⟩ := setCells_shape' b r (o + 1) (w.setCell ⟨b, o, none⟩ v)
    exact ⟨h1.trans (by simp [World.setCell]), h2.trans rfl, h3.trans rfl, h4.trans rfl⟩
/-- A row of the call's own that Go has sorted: it reads so, and nothing ahead has turned. -/
theorem sorted_own {B : Nat} {w w1 : World} (hb : Below B w w1) {g q : Nat} {xs : List Int} {os : Array Obj} (hg : B ≤ g) (hgl : g < w1.heap.size) (hH : Holds (Value.int .i64) w1 g 0 xs.toArray) :
    Below B w (grow (putRow (Value.int .i64) (Sort.ahead w1 q) g 0 (fall xs).toArray) os) ∧ Rd (grow (putRow (Value.int .i64) (Sort.ahead w1 q) g 0 (fall xs).toArray) os) w1.heap.size (some ⟨g, 0, none⟩) (ci (fall xs)) ∧ w1.heap.size ≤ (grow (putRow (Value.int .i64) (Sort.ahead w1 q) g 0 (fall xs).toArray) os).heap.size := by
  have hfl : (fall xs).length = xs.length := (fall_perm xs).length_eq
  rw [Lib.sorted_world (Value.int .i64) w1 g 0 q xs.toArray (fall xs) os hH (by simpa using hfl)]
  obtain ⟨h1, h2, h3, h4⟩ := setCells_shape' g ((fall xs).map (Value.int .i64)) 0 (w1.drewN q)
  have hsz : w1.heap.size ≤ (grow ((w1.drewN q).setCells g 0 ((fall xs).map (Value.int .i64))) os).heap.size := by
    rw [size_grow, h1]; show w1.heap.size ≤ w1.heap.size + _; omega
  refine ⟨⟨?_, ?_, ?_, Nat.le_trans hb.size hsz, fun k hk => ?_⟩, ?_, hsz⟩
  · exact h2.trans hb.os
  · exact h3.trans hb.tape
  · exact h4.trans hb.output
  · by_cases hkl : k < w1.heap.size
    · rw [heap_grow_old _ _ (by rw [h1]; exact hkl), setCells_other' (by omega)]
      exact hb.block k hk
    · omega
  · refine .inr ⟨g, 0, rfl, hgl, fun i hi => ?_⟩
    have hi2 : i < (fall xs).length := by simpa using hi
    have := cells_sorted_ints (W := w1) (b := g) (off := 0) (n := xs.length) (q := q) (zs := xs) (ys := fall xs) (os := os) (Nat.le_refl _) hfl (fun j hj => by
      have := (hH j (by simpa using hj)).1
      simpa [List.getD_eq_getElem?_getD, List.getElem?_eq_getElem hj] using this) i (by rw [List.length_append]; omega)
    rw [this, ci_get _ _ hi]
    congr 2
    rw [List.getD_eq_getElem?_getD, List.getElem?_append_left hi2, List.getElem?_eq_getElem hi2]
    rfl

set_option maxHeartbeats 400000 in
theorem clone_ints (x : Addr) (n cap B : Nat) (xs : List Int) (w : World) (hl : xs.length = n) (hr : Rd w B (some x) (ci xs)) (hB : B ≤ w.heap.size) (hn : n ≤ 1000) :
    Calls Try.prog 32 #[.slice (some x) n cap] w fun e w' =>
      ∃ o, e = .returned o ∧ w'.ownsRow w.heap.size 3 1 o n (ci xs) ∧ Below w.heap.size w w' := by
  obtain ⟨i0, hi, hz0, hz1, hz2⟩ := info_parts info_num
  have HL := Lib.hid hl; clear hl
  have hq := fun W : World => Lib.run_eql_slice_nil (P := Try.prog) W 25 3 (some x) n cap 0 0 Try.underlying25
  have hown := World.ownsRow_made (base := w.heap.size) (size := 1) (e := 3) w #[] 0 (Nat.le_refl _) (Nat.zero_le _) rfl
  have hb := (Below.refl w.heap.size w).alloc (Nat.le_refl _) (.cells #[] 3)
  go_enter Try.func32, Try.ntmps32
  go_wp2_with (at_builtin; refine wpList_append_rd rfl _ _ 25 rfl w.heap.size 3 i0 (.int .i64 0) 8 Try.underlying25 hi hz0 hz1 hz2 rfl _ 0 [] rfl hown w.heap.size _ n cap (ci xs) rfl ((hr.more hB).below hb (Nat.le_refl _)) ?c1 (ci_one _) ?c2 ?c3 hb.size ?_)
  case c1 => rw [length_ci, HL.out]
  case c2 => unfold maxLen; omega
  case c3 => omega
  intro o' w2 hown' hgrow
  have hb' := hb.grown hgrow hb.size (fun j hj => (hown.lt j hj).1)
  go_wp2
  go_ret
  exact ⟨o', by rfl, by simpa using hown', hb'⟩

/-- A row of the call's own, not empty: where it lies, what its cells hold. -/
theorem own_holds {w : World} {base : Nat} {e : TypeId} {v : Value} {n : Nat} {xs : List Int} (h : w.ownsRow base e 1 v n (ci xs)) (h0 : 0 < n) :
    ∃ g cap, v = .slice (some ⟨g, 0, none⟩) n cap ∧ base ≤ g ∧ g < w.heap.size ∧ Holds (Value.int .i64) w g 0 xs.toArray := by
  rcases h.2 with ⟨_, rfl⟩ | ⟨g, cap, cur, rfl, hb, hg, hc, hm, hs, ht⟩
  · omega
  · refine ⟨g, cap, rfl, hb, lt_of_some hg, fun j hj => ?_⟩
    have hj2 : j < xs.length := by simpa using hj
    have hcl : j < cur.size := by
      have := congrArg List.length ht
      rw [List.length_take, length_ci, Array.length_toList] at this
      omega
    have hcj : cur.toList[j]'(by rw [Array.length_toList]; exact hcl) = .int .i64 xs[j] := by
      have h1 : (cur.toList.take (n * 1))[j]? = (ci xs)[j]? := by rw [ht]
      rw [List.getElem?_eq_getElem (l := ci xs) (by rw [length_ci]; exact hj2), ci_get, List.getElem?_take] at h1
      split at h1
      · rw [List.getElem?_eq_getElem (by rw [Array.length_toList]; exact hcl)] at h1
        exact Option.some.inj h1
      · cases h1
    constructor
    · rw [cell_of_row w g (0 + j) cur e (0, 0) hg]
      simp only [Nat.zero_add]
      rw [Array.getElem?_eq_getElem hcl]
      simp only [Array.getElem_toList] at hcj
      rw [hcj]
      simp [hj2]
    · simp [World.frozen?, hg]

/-- A row of the call's own, laid in falling order. -/
def LayPost (xs : List Int) (n : Nat) (w : World) (e : Ending) (w' : World) : Prop :=
  ∃ g cap, e = .returned (.slice (some ⟨g, 0, none⟩) n cap) ∧ Below w.heap.size w w' ∧ ∀ (k : Nat) (h : k < (fall xs).length), w'.cell? ⟨g, k, none⟩ = some (.int .i64 (fall xs)[k])
theorem lay_end {xs : List Int} {n : Nat} {w w1 w3 : World} {g cap : Nat} (h1 : Below w.heap.size w w3) (h2 : Rd w3 w1.heap.size (some ⟨g, 0, none⟩) (ci (fall xs))) : LayPost xs n w (.returned (.slice (some ⟨g, 0, none⟩) n cap)) w3 := by
  refine ⟨g, cap, rfl, h1, fun k h => ?_⟩
  obtain ⟨b, o, e1, _, hc⟩ := h2.pos (by rw [length_ci]; omega)
  have := hc k (by rw [length_ci]; exact h)
  cases e1
  rw [Nat.zero_add, ci_get] at this
  exact this

set_option maxHeartbeats 1000000 in
theorem lay_falls (x : Addr) (n cap B : Nat) (xs : List Int) (w : World) (hl : xs.length = n) (hr : Rd w B (some x) (ci xs)) (hB : B ≤ w.heap.size) (hn : n ≤ 1000) (h0 : 0 < n) :
    Calls Try.prog 29 #[.agg #[.func (.func 27) #[] #[]], .slice (some x) n cap] w (LayPost xs n w) := by
  have hb0 := (Below.refl w.heap.size w).alloc (Nat.le_refl _) (.cells #[.func (.func 27) #[] #[]] 45)
  have hc := clone_ints x n cap B xs (w.alloc (.cells #[.func (.func 27) #[] #[]] 45)) hl (hr.alloc hB _) (by simp; omega) hn
  have hcell : (w.alloc (.cells #[.func (.func 27) #[] #[]] 45)).cell? ⟨w.heap.size, 0, none⟩ = some (.func (.func 27) #[] #[]) := cell_of_row _ _ 0 _ _ (0, 0) (heap_alloc_new w _)
  have HC := Lib.hid hc; clear hc
  have HL := Lib.hid hl; clear hl
  go_enter Try.func29, Try.ntmps29
  go_wp2_with fail
  refine HC.out.mono ?_
  rintro e w1 ⟨o, rfl, hown, hb1⟩
  obtain ⟨g, cg, rfl, hg, hgl, hH⟩ := own_holds hown h0
  have hk := (hb1.cell (p := ⟨w.heap.size, 0, none⟩) (by simp)).trans hcell
  have hsz := hb1.size
  rw [World.alloc] at hsz hg
  have hg' : w.heap.size + 1 ≤ g := by simpa using hg
  have hbw := hb0.trans (hb1.mono hb0.size)
  have HS := Lib.hid (sort_falls g 0 n cg xs HL.out hn w1 hH hgl)
  have HE := Lib.hid (fun q os => sorted_own (w := w) (w1 := w1) hbw (g := g) (q := q) (xs := xs) (os := os) (by omega) hgl hH)
  clear hb0 hb1 hown hH hcell hsz hg
  go_wp2_with fail
  refine HS.out.mono ?_
  rintro e w2 ⟨rfl, q, os, hw⟩
  obtain ⟨e1, e2, _⟩ := HE.out q os
  rw [← hw] at e1 e2
  clear hw
  have HP := Lib.hid (lay_end (n := n) (cap := cg) e1 e2)
  clear e1 e2
  go_wp2_with fail
  go_ret
  exact HP.out

theorem sure_code {xs : List Int} {n : Nat} (hl : xs.length = n) (h0 : 0 < n) {k : Nat} (hk : (k : Int) = majP (n : Int) - 1) : ∃ h : k < (fall xs).length, SureIs xs (fall xs)[k] := by
  have hf : (fall xs).length = xs.length := (fall_perm xs).length_eq
  rw [majP_yes (by omega)] at hk
  exact ⟨by omega, sure_fall (by omega) (by omega)⟩

set_option maxHeartbeats 1000000 in
theorem sure_any (a : Option Addr) (n c B : Nat) (xs : List Int) (w : World) (hl : xs.length = n) (hr : Rd w B a (ci xs)) (hB : B ≤ w.heap.size) (hn : n ≤ 1000) :
    Calls Try.prog 17 #[.slice a n c] w (SurePost xs w) := by
  by_cases h0 : n = 0
  · subst h0
    have hx : xs = [] := List.eq_nil_of_length_eq_zero hl
    have HX := Lib.hid hx; clear hx hl
    go_enter Try.func17, Try.ntmps17
    go_wp2
    go_ret2
    exact ⟨Below.refl _ _, .inl ⟨HX.out, rfl⟩⟩
  · have hz : ((n : Int) == 0) = false := by simp; omega
    obtain ⟨b, o, rfl, _, _⟩ := hr.pos (by rw [length_ci]; omega)
    obtain ⟨k, hk⟩ : ∃ k : Nat, (k : Int) = majP (n : Int) - 1 := by
      rw [majP_yes (by omega)]
      exact ⟨n / 2, by omega⟩
    obtain ⟨hkf, hS⟩ := sure_code hl (by omega) hk
    have hkn : k < n := by rw [(fall_perm xs).length_eq, hl] at hkf; exact hkf
    have HM := Lib.hid (majority_one (n : Int))
    have hb0 := (Below.refl w.heap.size w).alloc (Nat.le_refl _) (.cells #[.func (.func 27) #[] #[]] 45)
    have HLY := Lib.hid (lay_falls ⟨b, o, none⟩ n c w.heap.size xs (w.alloc (.cells #[.func (.func 27) #[] #[]] 45)) hl ((hr.more hB).alloc (Nat.le_refl _) _) hb0.size hn (by omega))
    have HS := Lib.hid hS
    have HI := Lib.hid (show (Try.prog.info? 45).map (·.size) = some 1 by kernel_rfl)
    have ho : (#[Value.func (.func 27) #[] #[]] : Array Value).all (·.oneCell') = true := by kernel_rfl
    have HO := Lib.hid ho
    clear hS hr hl ho
    generalize majP (n : Int) = m at *
    go_enter Try.func17, Try.ntmps17
    go_wp2_with (first
      | (refine wpList_store_new w rfl 45 _ _ rfl 45 _ #[.func (.func 27) #[] #[]] w.heap.size rfl rfl rfl HI.out rfl HO.out ?_)
      | (go_at_call 29; refine HLY.out.mono ?_; rintro e w1 ⟨g, cap, rfl, hb1, hc⟩))
    have hck := hc k hkf
    clear hc
    have hbw := hb0.trans (hb1.mono hb0.size)
    clear hb0 hb1
    generalize (fall xs)[k] = v at *
    rw [show k = m.toNat - 1 by omega] at hck
    have hm1 : 1 ≤ m := by omega
    have hmn : m ≤ (n : Int) := by omega
    go_wp2_with (go_at_call 9; refine (HM.out w1 (by omega)).mono ?_; rintro e w2 ⟨rfl, rfl⟩)
    go_ret2
    exact ⟨hbw, .inr ⟨v, HS.out, rfl⟩⟩
end Go.Proofs.Ytdoieefkpafgcaa
