/-
  The program's lists of texts and members, by contract: Grow, Concat, Copy, Without.
-/
import Derived.Test.YtekhkmhpeefenaaListS
import Derived.Test.YtekhkmhpeefenaaRolR
import Derived.Deep.RegionLaw
namespace Go.Proofs.Ytekhkmhpeefenaa
set_option linter.unusedVariables false
open Go.RowKit Go.Sort Go.Shelf

theorem memInfo : (Try.prog.info? 45).map (fun i => (i.zero, i.size, i.bytes)) = some (some (.agg #[.string ⟨#[]⟩, .string ⟨#[]⟩]), 2, 32) := by kernel_rfl
set_option maxHeartbeats 2000000 in
set_option maxRecDepth 100000 in
theorem prog_grow_mem (n : Nat) (w : World) (hn : n ≤ 1099511627776) :
    Calls Try.prog 75 #[.slice none 0 0, .int .i64 n] w (GrowPost w 45 2) := by
  obtain ⟨i0, hi0, hz0, hs0, hb0⟩ := info_parts memInfo
  have h1 : ¬ ((n : Int) < 0) := by omega
  have h2 : wrap64 ((n : Int) - 0) = n := by unfold wrap64; omega
  by_cases h0 : n = 0
  · subst h0
    go_enter Try.func75, Try.ntmps75
    go_wp2_with fail
    go_ret
    exact ⟨_, rfl, World.ownsRow_nil _ _ _ _, Below.refl _ _⟩
  · have h4 : (n : Int) > 0 := by omega
    have hrz : ∃ W G, n ≤ G ∧ G ≤ maxLen ∧ (∀ ty, (Builtin.append_ #[23, 3] ty #[.slice none 0 0, .int .i64 (n : Int)]).run Try.prog w = .ok (.slice (some ⟨w.heap.size, 0, none⟩) n G) W) ∧ GrowPost w 45 2 (.returned (.slice (some ⟨w.heap.size, 0, none⟩) 0 G)) W := by
      refine ⟨w.drew.alloc (.cells (([] : List Value).toArray ++ Builtin.zeroCells (Value.cells (.agg #[.string ⟨#[]⟩, .string ⟨#[]⟩])) n ++ Builtin.zeroCells (Value.cells (.agg #[.string ⟨#[]⟩, .string ⟨#[]⟩])) (grownCap w (0 + n) 0 45 - (0 + n))) 45), grownCap w (0 + n) 0 45, ?_, ?_, fun ty => ?_, grow_own w 45 2 (.agg #[.string ⟨#[]⟩, .string ⟨#[]⟩]) n rfl hn⟩
      · have := grownCap_ge w (0 + n) 0 45; omega
      · exact grownCap_le_maxLen w (0 + n) 0 45 (by unfold maxLen; omega)
      · have h := Lib.run_append_grow_zeros w 23 3 ty 45 i0 _ .i64 .i64 Try.underlying23 Try.underlying3 hi0 hz0 none 0 0 [] (run_firstCells_none w.drew i0.size 0 0 0) n (by omega) (by rw [hs0]; omega) (by omega) (by omega) (by rw [hb0]; omega) (by rw [hb0]; exact growslice_fits (by omega) (by omega))
        rw [h, Nat.zero_add]
    obtain ⟨W, G, hG1, hG2, hrz, hp⟩ := hrz
    unfold maxLen at hG2
    have HP := Lib.hid hp
    clear hp
    go_enter Try.func75, Try.ntmps75
    go_wp2_with (at_builtin; refine Lib.wpList_append_run _ rfl _ _ _ _ rfl _ _ rfl rfl _ _ (hrz _) ?_)
    all_goals (go_ret; exact HP.out)

set_option maxHeartbeats 4000000 in
set_option maxRecDepth 100000 in
theorem prog_concat_mem (a : Option Addr) (n c : Nat) (S : Nat → Prop) (ls : List (List Mem)) (w : World) (h : Lst w (· < w.heap.size) (lstP memQ w S 2) 1 (.slice a n c) ls) (hS : ∀ k, S k → k < w.heap.size) (hN : (lenT ls) ≤ 1099511627776) :
    Calls Try.prog 67 #[.slice a n c] w (ConcatPost memQ w S 45 2 ls.flatten) := by
  obtain ⟨hl, hc, hm⟩ := h.len
  unfold maxLen at hm
  have HL := Lib.hid hl
  have HH := Lib.hid h
  have HS := Lib.hid hS
  obtain ⟨i0, hi0, hz0, hs0, hb0⟩ := info_parts memInfo
  have HI := Lib.hid (And.intro hi0 (And.intro hz0 (And.intro hs0 hb0)))
  clear h hl hS hi0 hz0 hs0 hb0
  go_enter Try.func67, Try.ntmps67
  go_wp2_with fail
  go_loop [3, 5, 11] (fun q _ i => ∃ k : Nat, k ≤ n ∧ q = .int .i64 (lenT (ls.take k) : Nat) ∧ i = .int .i64 k) (fun _ _ i => n - (intOf i).toNat)
  case atStart => exact ⟨0, Nat.zero_le _, by rw [List.take_zero]; rfl, rfl⟩
  case round =>
    obtain ⟨k, hk, rfl, rfl⟩ := hrel
    by_cases hlt : k < n
    · have lk : k < ls.length := by rw [HL.out]; exact hlt
      obtain ⟨b, o, x, rfl, hbB, ⟨v, hx, hv⟩, hcl⟩ := HH.out.at lk
      have hsum := lenT_take lk
      have hle := lenT_le ls (k + 1)
      have k0 : (0 : Int) ≤ (k : Int) := by omega
      have k1 : (k : Int) < (n : Int) := by omega
      obtain ⟨va, vc, rfl, _, _⟩ := hv.form
      generalize ls[k] = y at *
      subst hx
      have c0 : w.cell? ⟨b, o + k, none⟩ = some (.slice va y.length vc) := by have := hcl 0 _ rfl; simpa using this
      clear hcl hv
      obtain ⟨q', hq'⟩ : ∃ q', lenT (ls.take (k + 1)) = q' := ⟨_, rfl⟩
      rw [hq'] at hsum hle
      have HSUM := Lib.hid hsum
      have HQ := Lib.hid hq'
      clear hq'
      generalize lenT (ls.take k) = q at *
      generalize y.length = m at *
      have e1 : wrap64 ((q : Int) + (m : Int)) = (q' : Int) := by have := HSUM.out; unfold wrap64; omega
      have e2 : ¬ ((q' : Int) < 0) := Int.not_lt.2 (Int.natCast_nonneg q')
      clear hsum
      go_wp2_with fail
      go_round
      case rel => exact ⟨k + 1, by omega, by rw [HQ.out]; go_num, by go_num⟩
      case measure => simp [intOf]; omega
    · obtain rfl : n = k := by omega
      have HAL := Lib.hid (show ls.take n = ls by rw [List.take_of_length_le]; have := HL.out; omega)
      have HT := Lib.hid (show lenT (ls.take n) ≤ 1099511627776 by rw [HAL.out]; exact hN)
      generalize lenT (ls.take n) = q at *
      go_wp2_with (go_at_call 75; refine (prog_grow_mem _ _ HT.out).mono ?_; rintro e w' ⟨v1, rfl, hv1, hb1⟩)
      have HV1 := Lib.hid hv1; have HB1 := Lib.hid hb1
      clear hv1 hb1
      go_loopw [6, 8, 27] (fun v _ i wr => ∃ k : Nat, k ≤ n ∧ i = .int .i64 k ∧ OwnR memQ wr S w.heap.size 45 2 v (ls.take k).flatten ∧ Below w.heap.size w wr) (fun _ _ i _ => n - (intOf i).toNat)
      case atStart => exact ⟨0, Nat.zero_le _, rfl, ⟨[], by rw [List.take_zero]; exact HV1.out, by simp, fun i x y h => by simp at h⟩, HB1.out⟩
      case round =>
        obtain ⟨k, hk, rfl, hv, hbw⟩ := hrel
        have HV := Lib.hid hv
        have HBW := Lib.hid hbw
        by_cases hlt : k < n
        · have lk : k < ls.length := by rw [HL.out]; exact hlt
          obtain ⟨b, o, x, rfl, hbB, ⟨v, hx, hv2⟩, hcl⟩ := HH.out.at lk
          have hft := flat_take lk
          have hsum := lenT_take lk
          have hle := lenT_le ls (k + 1)
          have k0 : (0 : Int) ≤ (k : Int) := by omega
          have k1 : (k : Int) < (n : Int) := by omega
          have hv3 : Lst wr S (memQ wr S) 2 v ls[k] := hv2.keep (fun _ h => h) (Keeps.of_below hbw HS.out) fun x y _ h => mem_stays.keep h (fun _ h => h) (Keeps.of_below hbw HS.out)
          obtain ⟨va, vc, rfl, _, _⟩ := hv2.form
          have hlen : (ls.take k).flatten.length + ls[k].length ≤ 1099511627776 := by
            unfold lenT at hsum hle hN; omega
          have HFT := Lib.hid hft; have HLEN := Lib.hid hlen; have HV3 := Lib.hid hv3
          clear hft hsum hle hlen hv3 hv2 hv
          subst hx
          have c0 : wr.cell? ⟨b, o + k, none⟩ = some (.slice va ls[k].length vc) := (hbw.cell (p := ⟨b, o + k, none⟩) hbB).trans (by have := hcl 0 _ rfl; simpa using this)
          clear hcl hbw
          generalize ls[k] = y at *
          obtain ⟨m, hm2⟩ : ∃ m, y.length = m := ⟨_, rfl⟩
          rw [hm2] at c0 HV3 HLEN
          clear hm2
          obtain ⟨i0, ci, cz0, cz1, cz2⟩ := info_parts memInfo
          go_wp2_with (at_builtin; refine wpList_append_more rfl _ _ 23 rfl w.heap.size 45 i0 _ 2 32 Try.underlying23 ci cz0 cz1 cz2 rfl (by decide) mem_stays rfl HV.out HS.out rfl HV3.out ?c1 ?c2 ?c3 ?_)
          case c1 => have := HLEN.out; unfold maxLen; omega
          case c2 => have := HLEN.out; omega
          case c3 => exact HBW.out.size
          intro v4 w4 hv4 hb4
          have HV4 := Lib.hid hv4
          go_wp2_with fail
          go_roundw
          case rel => exact ⟨k + 1, by omega, by go_num, by rw [HFT.out]; exact HV4.out, HBW.out.trans hb4⟩
          case measure => simp [intOf]; omega
        · obtain rfl : n = k := by omega
          go_wp2_with fail
          go_ret
          exact ⟨_, rfl, by rw [← HAL.out]; exact HV.out, HBW.out⟩

set_option maxHeartbeats 4000000 in
theorem prog_copylist_mem (a : Option Addr) (n c : Nat) (S : Nat → Prop) (l : List Mem) (w : World) (h : Lst w S (memQ w S) 2 (.slice a n c) l) (hS : ∀ k, S k → k < w.heap.size) (hN : n ≤ 1099511627776) :
    Calls Try.prog 43 #[.slice a n c] w (ConcatPost memQ w S 45 2 l) := by
  have HL := h.len.1
  have HC := Lib.hid (prog_concat_mem (some ⟨w.heap.size, 0, none⟩) 1 1 S [l] (w.alloc (.cells #[.slice a n c] 23)) (listed mem_stays [.slice a n c] [l] 23 rfl (show 1 ≤ maxLen by unfold maxLen; decide) hS fun i v y hi hy => by
      cases i with
      | zero => simp only [List.getElem?_cons_zero, Option.some.injEq] at hi hy; subst hi hy; exact h
      | succ i => simp at hi)
    (fun k hk => by have := hS k hk; rw [show (w.alloc (.cells #[.slice a n c] 23)).heap.size = w.heap.size + 1 by simp]; omega) (by unfold lenT; simp only [List.flatten_cons, List.flatten_nil, List.append_nil]; omega))
  clear h hS HL
  go_enter Try.func43, Try.ntmps43
  go_wp2_with (go_at_call 67; refine HC.out.mono ?_; intro e w' hp; obtain ⟨v, rfl, hv, hb⟩ := copy_post hp (List.append_nil l))
  go_ret
  exact ⟨_, rfl, hv, hb⟩


set_option maxRecDepth 100000 in
set_option maxHeartbeats 4000000 in
theorem prog_without_mem (a : Option Addr) (n c : Nat) (S : Nat → Prop) (l : List Mem) (at' : Nat) (w : World) (h : Lst w S (memQ w S) 2 (.slice a n c) l) (hk : at' < n) (hS : ∀ k, S k → k < w.heap.size) (hN : n ≤ 1099511627776) :
    Calls Try.prog 57 #[.slice a n c, .int .i64 at'] w (ConcatPost memQ w S 45 2 (l.eraseIdx at')) := by
  obtain ⟨hl, hc, hm⟩ := h.len
  unfold maxLen at hm
  have hkl : at' < l.length := by omega
  obtain ⟨b, o, x, rfl, -, -, -⟩ := h.at hkl
  have hdw : Below w.heap.size w w.drew := ⟨rfl, rfl, rfl, Nat.le_refl _, fun _ _ => rfl⟩
  have hkd : Keeps S w w.drew := Keeps.of_below hdw hS
  have h' : Lst w.drew S (memQ w.drew S) 2 (.slice (some ⟨b, o, none⟩) n c) l := h.keep (fun _ h => h) hkd fun x y _ h => mem_stays.keep h (fun _ h => h) hkd
  have k0 : (0 : Int) ≤ (at' : Int) := by omega
  have k1 : (at' : Int) ≤ (c : Int) := by omega
  have k2 : wrap64 ((at' : Int) + 1) = (at' : Int) + 1 := by unfold wrap64; omega
  have k3 : (0 : Int) ≤ (at' : Int) + 1 := by omega
  have k4 : (at' : Int) + 1 ≤ (n : Int) := by omega
  have k5 : (n : Int) ≤ (c : Int) := by omega
  have h1 := h'.take (k := at') (by omega)
  have h2 : Lst w.drew S (memQ w.drew S) 2 (.slice (if c = at' + 1 then some ⟨b, o, none⟩ else some ⟨b, o + (at' + 1) * 2, none⟩) (n - (at' + 1)) (c - (at' + 1))) (l.drop (at' + 1)) := by
    split
    · rename_i hcc
      rw [show n - (at' + 1) = 0 by omega, List.drop_of_length_le (by omega)]
      exact Lst.none _ _ (by unfold maxLen; omega)
    · exact h'.dropped (k := at' + 1) (by omega)
  have hlt := listed mem_stays (w := w.drew) [.slice (some ⟨b, o, none⟩) at' c, .slice (if c = at' + 1 then some ⟨b, o, none⟩ else some ⟨b, o + (at' + 1) * 2, none⟩) (n - (at' + 1)) (c - (at' + 1))] [l.take at', l.drop (at' + 1)] 23 rfl (show 2 ≤ maxLen by unfold maxLen; decide) hS fun i v y hi hy => by
    match i, hi, hy with
    | 0, hi, hy => simp only [List.getElem?_cons_zero, Option.some.injEq] at hi hy; subst hi hy; exact h1
    | 1, hi, hy => simp only [List.getElem?_cons_succ, List.getElem?_cons_zero, Option.some.injEq] at hi hy; subst hi hy; exact h2
    | i + 2, hi, _ => simp at hi
  have HC : Hid (Calls Try.prog 67 #[.slice (some ⟨w.heap.size, 0, none⟩) 2 2] (w.alloc (.cells #[.slice (some ⟨b, o, none⟩) at' c, .slice (if c = at' + 1 then some ⟨b, o, none⟩ else some ⟨b, o + (at' + 1) * 2, none⟩) (n - (at' + 1)) (c - (at' + 1))] 23)).drew
      (ConcatPost memQ (w.drew.alloc (.cells #[.slice (some ⟨b, o, none⟩) at' c, .slice (if c = at' + 1 then some ⟨b, o, none⟩ else some ⟨b, o + (at' + 1) * 2, none⟩) (n - (at' + 1)) (c - (at' + 1))] 23)) S 45 2 [l.take at', l.drop (at' + 1)].flatten)) :=
    Lib.hid (prog_concat_mem _ 2 2 S _ (w.drew.alloc (.cells #[.slice (some ⟨b, o, none⟩) at' c, .slice (if c = at' + 1 then some ⟨b, o, none⟩ else some ⟨b, o + (at' + 1) * 2, none⟩) (n - (at' + 1)) (c - (at' + 1))] 23)) hlt
      (fun k hk => by have := hS k hk; have h9 : (w.drew.alloc (.cells #[.slice (some ⟨b, o, none⟩) at' c, .slice (if c = at' + 1 then some ⟨b, o, none⟩ else some ⟨b, o + (at' + 1) * 2, none⟩) (n - (at' + 1)) (c - (at' + 1))] 23)).heap.size = w.heap.size + 1 := size_box _ _; omega)
      (by unfold lenT; simp only [List.flatten_cons, List.flatten_nil, List.append_nil, List.length_append, List.length_take, List.length_drop]; omega))
  have HE := Lib.hid (show [l.take at', l.drop (at' + 1)].flatten = l.eraseIdx at' by rw [List.eraseIdx_eq_take_drop_succ]; simp)
  have HD := Lib.hid hdw
  clear h h' h1 h2 hlt hkd hdw hl hS hkl
  go_enter Try.func57, Try.ntmps57
  go_wp2_with fail
  have k2' : IntKind.i64.wrap ((at' : Int) + 1) = (at' : Int) + 1 := by rw [IntKind.wrap_i64]; omega
  go_region_law (first
    | (go_simp
       refine HC.out.mono ?_
       intro e w' hp
       obtain ⟨v, rfl, hv, hb⟩ := copy_post hp HE.out
       have HV := Lib.hid hv; have HB := Lib.hid (HD.out.trans hb)
       clear hp hv hb))
  all_goals
    go_wp2_with fail
    all_goals (go_ret; exact ⟨_, rfl, HV.out, HB.out⟩)


set_option maxRecDepth 100000 in
set_option maxHeartbeats 4000000 in
theorem prog_without_str (a : Option Addr) (n c : Nat) (S : Nat → Prop) (l : List ByteArray) (at' : Nat) (w : World) (h : Lst w S (strQ w S) 1 (.slice a n c) l) (hk : at' < n) (hS : ∀ k, S k → k < w.heap.size) (hN : n ≤ 1099511627776) :
    Calls Try.prog 49 #[.slice a n c, .int .i64 at'] w (ConcatPost strQ w S 9 1 (l.eraseIdx at')) := by
  obtain ⟨hl, hc, hm⟩ := h.len
  unfold maxLen at hm
  have hkl : at' < l.length := by omega
  obtain ⟨b, o, x, rfl, -, -, -⟩ := h.at hkl
  have hdw : Below w.heap.size w w.drew := ⟨rfl, rfl, rfl, Nat.le_refl _, fun _ _ => rfl⟩
  have hkd : Keeps S w w.drew := Keeps.of_below hdw hS
  have h' : Lst w.drew S (strQ w.drew S) 1 (.slice (some ⟨b, o, none⟩) n c) l := h.keep (fun _ h => h) hkd fun x y _ h => str_stays.keep h (fun _ h => h) hkd
  have k0 : (0 : Int) ≤ (at' : Int) := by omega
  have k1 : (at' : Int) ≤ (c : Int) := by omega
  have k2 : wrap64 ((at' : Int) + 1) = (at' : Int) + 1 := by unfold wrap64; omega
  have k3 : (0 : Int) ≤ (at' : Int) + 1 := by omega
  have k4 : (at' : Int) + 1 ≤ (n : Int) := by omega
  have k5 : (n : Int) ≤ (c : Int) := by omega
  have h1 := h'.take (k := at') (by omega)
  have h2 : Lst w.drew S (strQ w.drew S) 1 (.slice (if c = at' + 1 then some ⟨b, o, none⟩ else some ⟨b, o + (at' + 1), none⟩) (n - (at' + 1)) (c - (at' + 1))) (l.drop (at' + 1)) := by
    split
    · rename_i hcc
      rw [show n - (at' + 1) = 0 by omega, List.drop_of_length_le (by omega)]
      exact Lst.none _ _ (by unfold maxLen; omega)
    · have h9 := h'.dropped (k := at' + 1) (by omega)
      rw [Nat.mul_one] at h9
      exact h9
  have hlt := listed str_stays (w := w.drew) [.slice (some ⟨b, o, none⟩) at' c, .slice (if c = at' + 1 then some ⟨b, o, none⟩ else some ⟨b, o + (at' + 1), none⟩) (n - (at' + 1)) (c - (at' + 1))] [l.take at', l.drop (at' + 1)] 22 rfl (show 2 ≤ maxLen by unfold maxLen; decide) hS fun i v y hi hy => by
    match i, hi, hy with
    | 0, hi, hy => simp only [List.getElem?_cons_zero, Option.some.injEq] at hi hy; subst hi hy; exact h1
    | 1, hi, hy => simp only [List.getElem?_cons_succ, List.getElem?_cons_zero, Option.some.injEq] at hi hy; subst hi hy; exact h2
    | i + 2, hi, _ => simp at hi
  have HC : Hid (Calls Try.prog 65 #[.slice (some ⟨w.heap.size, 0, none⟩) 2 2] (w.alloc (.cells #[.slice (some ⟨b, o, none⟩) at' c, .slice (if c = at' + 1 then some ⟨b, o, none⟩ else some ⟨b, o + (at' + 1), none⟩) (n - (at' + 1)) (c - (at' + 1))] 22)).drew
      (ConcatPost strQ (w.drew.alloc (.cells #[.slice (some ⟨b, o, none⟩) at' c, .slice (if c = at' + 1 then some ⟨b, o, none⟩ else some ⟨b, o + (at' + 1), none⟩) (n - (at' + 1)) (c - (at' + 1))] 22)) S 9 1 [l.take at', l.drop (at' + 1)].flatten)) :=
    Lib.hid (prog_concat_str _ 2 2 S _ (w.drew.alloc (.cells #[.slice (some ⟨b, o, none⟩) at' c, .slice (if c = at' + 1 then some ⟨b, o, none⟩ else some ⟨b, o + (at' + 1), none⟩) (n - (at' + 1)) (c - (at' + 1))] 22)) hlt
      (fun k hk => by have := hS k hk; have h9 : (w.drew.alloc (.cells #[.slice (some ⟨b, o, none⟩) at' c, .slice (if c = at' + 1 then some ⟨b, o, none⟩ else some ⟨b, o + (at' + 1), none⟩) (n - (at' + 1)) (c - (at' + 1))] 22)).heap.size = w.heap.size + 1 := size_box _ _; omega)
      (by unfold lenT; simp only [List.flatten_cons, List.flatten_nil, List.append_nil, List.length_append, List.length_take, List.length_drop]; omega))
  have HE := Lib.hid (show [l.take at', l.drop (at' + 1)].flatten = l.eraseIdx at' by rw [List.eraseIdx_eq_take_drop_succ]; simp)
  have HD := Lib.hid hdw
  clear h h' h1 h2 hlt hkd hdw hl hS hkl
  go_enter Try.func49, Try.ntmps49
  go_wp2_with fail
  have k2' : IntKind.i64.wrap ((at' : Int) + 1) = (at' : Int) + 1 := by rw [IntKind.wrap_i64]; omega
  go_region_law (first
    | (go_simp
       refine HC.out.mono ?_
       intro e w' hp
       obtain ⟨v, rfl, hv, hb⟩ := copy_post hp HE.out
       have HV := Lib.hid hv; have HB := Lib.hid (HD.out.trans hb)
       clear hp hv hb))
  all_goals
    go_wp2_with fail
    all_goals (go_ret; exact ⟨_, rfl, HV.out, HB.out⟩)


end Go.Proofs.Ytekhkmhpeefenaa
