/-
  The document's reader for layer 1 (bytes that are read from the front), by contract.
-/
import Derived.Test.YtbhpbiimfcdgaaaGreatRef01
import Derived.Test.YtbhpbiimfcdgaaaGreatCodecR
import Derived.IntWalk
import Derived.BigQuiet
import Derived.Deep.QuietTactic
namespace Go.Proofs.YtbhpbiimfcdgaaaGreat
open Go.RowKit

/-- Block 'c' is the document's reader over 'bs' (below block B) that stands at place 'p'. -/
def IsC (w : World) (c B : Nat) (bs : List UInt8) (p : Nat) : Prop :=
  B ≤ c ∧ p ≤ bs.length ∧ ∃ a cap, w.heap[c]? = some (.cells #[.slice a bs.length cap, .int .i64 (p : Int)] 122 (0, 0)) ∧ Rd w B a (cb bs) ∧ bs.length ≤ cap ∧ cap ≤ maxLen

section
variable {w w' : World} {c B p : Nat} {bs : List UInt8}
theorem IsC.lt (h : IsC w c B bs p) : c < w.heap.size := by
  obtain ⟨_, _, a, cap, hh, _⟩ := h
  rcases Nat.lt_or_ge c w.heap.size with hlt | hge
  · exact hlt
  · rw [Array.getElem?_eq_none hge] at hh; cases hh
theorem IsC.keep (h : IsC w c B bs p) (hr : w'.heap[c]? = w.heap[c]?) (hk : ∀ k, k < B → w'.heap[k]? = w.heap[k]?) : IsC w' c B bs p := by
  obtain ⟨hB, hp, a, cap, hh, hrd, hc, hm⟩ := h
  exact ⟨hB, hp, a, cap, hr.trans hh, hrd.keep (fun p hp => World.cell?_of_block (hk p.block hp)), hc, hm⟩
theorem IsC.drewN (h : IsC w c B bs p) (n : Nat) : IsC (w.drewN n) c B bs p := h.keep rfl (fun _ _ => rfl)
theorem IsC.grown {row : Option Nat} (h : IsC w c B bs p) (hg : w.grownBy w' row) (hne : ∀ k, row = some k → B ≤ k ∧ k ≠ c) : IsC w' c B bs p :=
  h.keep (hg.block c h.lt (fun e => (hne c e.symm).2 rfl)) (fun k hk => hg.block k (by have := h.1; have := h.lt; omega) (fun e => by have := (hne k e.symm).1; omega))
theorem IsC.open_ (h : IsC w c B bs p) : ∃ a cap, w.cell? ⟨c, 0, none⟩ = some (.slice a bs.length cap) ∧ w.cell? ⟨c, 1, none⟩ = some (.int .i64 (p : Int)) ∧ w.frozen? ⟨c, 1, none⟩ = false ∧ Rd w B a (cb bs) ∧ bs.length ≤ cap ∧ cap ≤ maxLen ∧ p ≤ bs.length := by
  obtain ⟨_, hp, a, cap, hh, hrd, hc, hm⟩ := h
  exact ⟨a, cap, by simpa using cell_of_row w c 0 _ _ _ hh, by simpa using cell_of_row w c 1 _ _ _ hh, frozen_of_row w c 1 _ _ hh, hrd, hc, hm, hp⟩
theorem IsC.stored (h : IsC w c B bs p) {q : Nat} (hq : q ≤ bs.length) :
    IsC (w.setCell ⟨c, 1, none⟩ (.int .i64 (q : Int))) c B bs q ∧ w.grownBy (w.setCell ⟨c, 1, none⟩ (.int .i64 (q : Int))) (some c) := by
  obtain ⟨hB, _, a, cap, hh, hrd, hc, hm⟩ := h
  refine ⟨⟨hB, hq, a, cap, ?_, hrd.keep (fun p hp => ?_), hc, hm⟩, ⟨rfl, rfl, rfl, by simp [World.setCell], fun k _ hk => ?_⟩⟩
  · have := heap_setCell_same w c 1 _ _ (.int .i64 (q : Int)) hh
    simpa using this
  · exact World.cell?_of_block (Below.heap_setCell _ _ _ _ (by simp; omega))
  · exact Below.heap_setCell _ _ _ _ (fun e => hk (by simp [e]))
end

theorem of_quiet {a : Option Addr} {n cap : Nat} {bs : List UInt8} {B : Nat} {w : World} (hl : bs.length = n) (hr : Rd w B a (cb bs)) (hn : n ≤ 8) (k : Nat) :
    Calls Tryz.prog 110 #[.slice a n cap] (w.drewN k) fun e w' => e = .returned (.int .u64 (le bs)) ∧ w' = w.drewN k :=
  (of_any a n cap bs B _ hl (hr.drewN k) hn).mono fun _ _ h => ⟨h.1, h.2.symm⟩

set_option maxHeartbeats 400000 in
theorem cut_left (c B p : Nat) (bs : List UInt8) (w : World) (hC : IsC w c B bs p) :
    Calls Tryz.prog 48 #[.pointer (some ⟨c, 0, none⟩)] w fun e w' => e = .returned (.int .i64 ((bs.length : Int) - (p : Int))) ∧ ∃ n, w' = w.drewN n := by
  obtain ⟨a, cap, h0, h1, _, hrd, hcap, hmax, hp⟩ := hC.open_
  generalize hn : bs.length = n at *
  have HN := Lib.hid hn; clear hn
  unfold maxLen at hmax
  go_enter Tryz.func48, Tryz.ntmps48
  go_wp2_with fail
  go_quiet (fail)
  go_wp2
  go_ret
  exact ⟨rfl, _, rfl⟩

set_option maxHeartbeats 400000 in
theorem cut_small (c B p n : Nat) (bs : List UInt8) (w : World) (hC : IsC w c B bs p) (hn0 : 0 < n) (hn8 : n ≤ 8) (hpn : p + n ≤ bs.length) :
    Calls Tryz.prog 94 #[.pointer (some ⟨c, 0, none⟩), .int .i64 (n : Int)] w fun e w' => e = .returned (.int .u64 (le ((bs.drop p).take n))) ∧ ∃ n, w' = w.drewN n := by
  obtain ⟨a, cap, h0, h1, _, hrd, hcap, hmax, hp⟩ := hC.open_
  obtain ⟨b, o, rfl, _, _⟩ := hrd.pos (by rw [length_cb]; omega)
  have hrd4 := (hrd.drop p).take n
  rw [cb_drop, cb_take] at hrd4
  have hl : ((bs.drop p).take n).length = n := by simp; omega
  have HL := Lib.hid hl; clear hl
  generalize (bs.drop p).take n = tx at *
  generalize hm : bs.length = m at *
  have HM := Lib.hid hm; clear hm
  unfold maxLen at hmax
  go_enter Tryz.func94, Tryz.ntmps94
  go_wp2_with fail
  have q1 : IntKind.i64.wrap ((p : Int) + (n : Int)) = (p : Int) + (n : Int) := IntWalk.i64_in _ (by omega)
  have q2 : (0 : Int) ≤ (p : Int) + (n : Int) := by omega
  have q3 : ((p : Int) + (n : Int)).toNat = p + n := by omega
  have q4 : (p : Int) ≤ (p : Int) + (n : Int) := by omega
  have q5 : (p : Int) + (n : Int) ≤ (cap : Int) := by omega
  have q6 : ¬ cap = p := by omega
  have q7 : p + n - p = n := by omega
  go_quiet ((go_at_call 110; exact Calls.quiet_of_same (of_quiet HL.out hrd4 hn8 _)))
  go_wp2
  go_ret
  exact ⟨rfl, _, rfl⟩

/-- The draws do not turn what a reader is. -/
theorem grown_drewN (w : World) (n : Nat) (row : Option Nat) : w.grownBy (w.drewN n) row := ⟨rfl, rfl, rfl, Nat.le_refl _, fun _ _ _ => rfl⟩
theorem grown_trans {a b c : World} {r s : Option Nat} (h : a.grownBy b r) (k : b.grownBy c s) (hs : ∀ j, s = some j → a.heap.size ≤ j ∨ r = some j) : a.grownBy c r :=
  ⟨k.os.trans h.os, k.tape.trans h.tape, k.output.trans h.output, Nat.le_trans h.size k.size, fun j hj hne =>
    (k.block j (Nat.lt_of_lt_of_le hj h.size) (fun e => by rcases hs j e.symm with h | h; omega; exact hne h.symm)).trans (h.block j hj hne)⟩

theorem IsC.moved {w : World} {c B p : Nat} {bs : List UInt8} (h : IsC w c B bs p) (n k : Nat) (hk : p + k ≤ bs.length) (z : Int) (hz : z = ((p + k : Nat) : Int)) :
    IsC ((w.drewN n).setCell ⟨c, 1, none⟩ (.int .i64 z)) c B bs (p + k) ∧ w.grownBy ((w.drewN n).setCell ⟨c, 1, none⟩ (.int .i64 z)) (some c) := by
  subst hz
  have hs := (h.drewN n).stored hk
  exact ⟨hs.1, grown_trans (grown_drewN w n (some c)) hs.2 fun j hj => .inr hj⟩

set_option maxHeartbeats 400000 in
theorem cut_number (c B p : Nat) (bs : List UInt8) (w : World) (hC : IsC w c B bs p) :
    Calls Tryz.prog 77 #[.pointer (some ⟨c, 0, none⟩)] w fun e w' =>
      e = .returned (.tuple #[.int .i64 (numV (bs.drop p)), .int .i64 (numE (bs.drop p))]) ∧ IsC w' c B bs (p + numK (bs.drop p)) ∧ w.grownBy w' (some c) := by
  have hp := hC.2.1
  have hd : (bs.drop p).length = bs.length - p := List.length_drop
  by_cases hl : (bs.drop p).length < 4
  · obtain ⟨f1, f2, f3⟩ := num_short hl
    rw [f1, f2, f3]
    clear f1 f2 f3
    rw [hd] at hl
    clear hd
    have hl' : (bs.length : Int) - (p : Int) < 4 := by omega
    go_enter Tryz.func77, Tryz.ntmps77
    go_wp2_with fail
    refine (cut_left c B p bs w hC).mono ?_
    rintro e w' ⟨rfl, n, rfl⟩
    go_wp2
    go_ret2
    exact ⟨rfl, by simpa using hC.drewN n, grown_drewN _ _ _⟩
  · have hl' : ¬ (bs.length : Int) - (p : Int) < 4 := by omega
    have hsm := fun k => cut_small c B p 4 bs (w.drewN k) (hC.drewN k) (by omega) (by omega) (by omega)
    have HSM := Lib.hid hsm; clear hsm
    have hlt := le_lt ((bs.drop p).take 4)
    rw [show ((bs.drop p).take 4).length = 4 from by simp; omega] at hlt
    by_cases hm : 1000000000 < (le ((bs.drop p).take 4) : Int)
    · have hm' : 1000000000 < le ((bs.drop p).take 4) := by omega
      obtain ⟨f1, f2, f3⟩ := num_form hl hm'
      rw [f1, f2, f3]
      clear f1 f2 f3 hd hm'
      generalize le ((bs.drop p).take 4) = v at *
      go_enter Tryz.func77, Tryz.ntmps77
      go_wp2_with fail
      refine (cut_left c B p bs w hC).mono ?_
      rintro e w' ⟨rfl, n, rfl⟩
      go_wp2_with fail
      refine (HSM.out n).mono ?_
      rintro e w' ⟨rfl, m, rfl⟩
      go_wp2
      go_ret2
      exact ⟨rfl, by simpa using (hC.drewN n).drewN m, by simpa using grown_drewN w (n + m) _⟩
    · have hm' : ¬ 1000000000 < le ((bs.drop p).take 4) := by omega
      obtain ⟨f1, f2, f3⟩ := num_ok hl hm'
      rw [f1, f2, f3]
      clear f1 f2 f3 hd
      generalize le ((bs.drop p).take 4) = v at *
      obtain ⟨a, cap, h0, h1, hf, hrd, hcap, hmax, _⟩ := hC.open_
      unfold maxLen at hmax
      go_enter Tryz.func77, Tryz.ntmps77
      go_wp2_with fail
      refine (cut_left c B p bs w hC).mono ?_
      rintro e w' ⟨rfl, n, rfl⟩
      go_wp2_with fail
      refine (HSM.out n).mono ?_
      rintro e w' ⟨rfl, m, rfl⟩
      go_wp2
      go_ret2
      exact ⟨rfl, hC.moved (n + m) 4 (by omega) _ (by omega)⟩

set_option maxHeartbeats 400000 in
theorem cut_int (c B p : Nat) (bs : List UInt8) (w : World) (hC : IsC w c B bs p) :
    Calls Tryz.prog 118 #[.pointer (some ⟨c, 0, none⟩)] w fun e w' =>
      e = .returned (.tuple #[.int .i64 (intV (bs.drop p)), .int .i64 (intE (bs.drop p))]) ∧ IsC w' c B bs (p + intK (bs.drop p)) ∧ w.grownBy w' (some c) := by
  have hp := hC.2.1
  have hd : (bs.drop p).length = bs.length - p := List.length_drop
  by_cases hl : (bs.drop p).length < 8
  · obtain ⟨f1, f2, f3⟩ := int_short hl
    rw [f1, f2, f3]
    clear f1 f2 f3
    rw [hd] at hl
    clear hd
    have hl' : (bs.length : Int) - (p : Int) < 8 := by omega
    go_enter Tryz.func118, Tryz.ntmps118
    go_wp2_with fail
    refine (cut_left c B p bs w hC).mono ?_
    rintro e w' ⟨rfl, n, rfl⟩
    go_wp2
    go_ret2
    exact ⟨rfl, by simpa using hC.drewN n, grown_drewN _ _ _⟩
  · have hl' : ¬ (bs.length : Int) - (p : Int) < 8 := by omega
    have hsm := fun k => cut_small c B p 8 bs (w.drewN k) (hC.drewN k) (by omega) (by omega) (by omega)
    have HSM := Lib.hid hsm; clear hsm
    obtain ⟨f1, f2, f3⟩ := int_ok hl
    rw [f1, f2, f3]
    clear f1 f2 f3 hd
    generalize le ((bs.drop p).take 8) = v at *
    obtain ⟨a, cap, h0, h1, hf, hrd, hcap, hmax, _⟩ := hC.open_
    unfold maxLen at hmax
    go_enter Tryz.func118, Tryz.ntmps118
    go_wp2_with fail
    refine (cut_left c B p bs w hC).mono ?_
    rintro e w' ⟨rfl, n, rfl⟩
    go_wp2_with fail
    refine (HSM.out n).mono ?_
    rintro e w' ⟨rfl, m, rfl⟩
    go_wp2
    go_ret2
    exact ⟨rfl, hC.moved (n + m) 8 (by omega) _ (by omega)⟩

set_option maxHeartbeats 800000 in
theorem cut_text (c B p : Nat) (bs : List UInt8) (w : World) (hC : IsC w c B bs p) :
    Calls Tryz.prog 79 #[.pointer (some ⟨c, 0, none⟩)] w fun e w' =>
      e = .returned (.tuple #[.string ⟨(txtV (bs.drop p)).toArray⟩, .int .i64 (txtE (bs.drop p))]) ∧ IsC w' c B bs (p + txtK (bs.drop p)) ∧ w.grownBy w' (some c) := by
  have hp := hC.2.1
  have hd : (bs.drop p).length = bs.length - p := List.length_drop
  by_cases hl : (bs.drop p).length < 4
  · obtain ⟨f1, f2, f3⟩ := txt_short hl
    rw [f1, f2, f3]
    clear f1 f2 f3
    rw [hd] at hl
    clear hd
    have hl' : (bs.length : Int) - (p : Int) < 4 := by omega
    go_enter Tryz.func79, Tryz.ntmps79
    go_wp2_with fail
    refine (cut_left c B p bs w hC).mono ?_
    rintro e w' ⟨rfl, n, rfl⟩
    go_wp2
    go_ret2
    exact ⟨rfl, by simpa using hC.drewN n, grown_drewN _ _ _⟩
  · have hl' : ¬ (bs.length : Int) - (p : Int) < 4 := by omega
    have hsm := fun k => cut_small c B p 4 bs (w.drewN k) (hC.drewN k) (by omega) (by omega) (by omega)
    have HSM := Lib.hid hsm; clear hsm
    have hlt := le_lt ((bs.drop p).take 4)
    rw [show ((bs.drop p).take 4).length = 4 from by simp; omega] at hlt
    by_cases hm : 65536 < (le ((bs.drop p).take 4) : Int)
    · have hm' : 65536 < le ((bs.drop p).take 4) := by omega
      obtain ⟨f1, f2, f3⟩ := txt_form hl hm'
      rw [f1, f2, f3]
      clear f1 f2 f3 hd hm'
      generalize le ((bs.drop p).take 4) = v at *
      go_enter Tryz.func79, Tryz.ntmps79
      go_wp2_with fail
      refine (cut_left c B p bs w hC).mono ?_
      rintro e w' ⟨rfl, n, rfl⟩
      go_wp2_with fail
      refine (HSM.out n).mono ?_
      rintro e w' ⟨rfl, m, rfl⟩
      go_wp2
      go_ret2
      exact ⟨rfl, by simpa using (hC.drewN n).drewN m, by simpa using grown_drewN w (n + m) _⟩
    · have hm' : ¬ 65536 < le ((bs.drop p).take 4) := by omega
      have hlf := fun k => cut_left c B p bs (w.drewN k) (hC.drewN k)
      have HLF := Lib.hid hlf; clear hlf
      by_cases hs : (bs.drop p).length < 4 + le ((bs.drop p).take 4)
      · obtain ⟨f1, f2, f3⟩ := txt_end hl hm' hs
        rw [f1, f2, f3]
        clear f1 f2 f3
        rw [hd] at hs
        clear hd
        generalize le ((bs.drop p).take 4) = v at *
        have hs' : (bs.length : Int) - (p : Int) - 4 < (v : Int) := by omega
        obtain ⟨a, cap, h0, h1, hf, hrd, hcap, hmax, _⟩ := hC.open_
        unfold maxLen at hmax
        go_enter Tryz.func79, Tryz.ntmps79
        go_wp2_with fail
        refine (cut_left c B p bs w hC).mono ?_
        rintro e w' ⟨rfl, n, rfl⟩
        go_wp2_with fail
        refine (HSM.out n).mono ?_
        rintro e w' ⟨rfl, m, rfl⟩
        go_wp2_with fail
        refine (HLF.out (n + m)).mono ?_
        rintro e w' ⟨rfl, q, rfl⟩
        go_wp2
        go_ret2
        exact ⟨rfl, by simpa using hC.drewN (n + m + q), by simpa using grown_drewN w (n + m + q) _⟩
      · obtain ⟨f1, f2, f3⟩ := txt_ok hl hm' hs
        rw [f1, f2, f3]
        clear f1 f2 f3
        obtain ⟨a, cap, h0, h1, hf, hrd, hcap, hmax, _⟩ := hC.open_
        obtain ⟨b, o, rfl, _, _⟩ := hrd.pos (by rw [length_cb]; omega)
        have hrd4 := (hrd.drop (p + 4)).take (le ((bs.drop p).take 4))
        rw [cb_drop, cb_take, ← List.drop_drop] at hrd4
        have hrl : (((bs.drop p).drop 4).take (le ((bs.drop p).take 4))).length = le ((bs.drop p).take 4) := by rw [List.length_take, List.length_drop]; omega
        have hcv := fun k c => run_string_of (P := Tryz.prog) (hrd4.drewN k) 22 9 5 _ c hrl Tryz.underlying22 Tryz.underlying5 Tryz.underlying9
        clear hrd4 hrl
        have hcv0 := fun k c => run_string_of (P := Tryz.prog) (w := w.drewN k) (B := 0) (a := some ⟨b, o, none⟩) (bs := []) Rd.nil 22 9 5 0 c rfl Tryz.underlying22 Tryz.underlying5 Tryz.underlying9
        have htx : le ((bs.drop p).take 4) = 0 → ((bs.drop p).drop 4).take (le ((bs.drop p).take 4)) = [] := fun h => by rw [h]; rfl
        rw [hd] at hs
        clear hd
        generalize ((bs.drop p).drop 4).take (le ((bs.drop p).take 4)) = tx at *
        generalize le ((bs.drop p).take 4) = v at *
        have hs' : (v : Int) ≤ (bs.length : Int) - (p : Int) - 4 := by omega
        unfold maxLen at hmax
        have q1 : IntKind.i64.wrap ((p : Int) + 4) = (p : Int) + 4 := IntWalk.i64_in _ (by omega)
        have q2 : IntKind.i64.wrap ((p : Int) + 4 + (v : Int)) = (p : Int) + 4 + (v : Int) := IntWalk.i64_in _ (by omega)
        have q3 : (0 : Int) ≤ (p : Int) + 4 := by omega
        have q4 : ((p : Int) + 4).toNat = p + 4 := by omega
        have q5 : (p : Int) + 4 ≤ (p : Int) + 4 + (v : Int) := by omega
        have q6 : (p : Int) + 4 + (v : Int) ≤ (cap : Int) := by omega
        have q7 : ((p : Int) + 4 + (v : Int)).toNat = p + 4 + v := by omega
        have q8 : p + 4 + v - (p + 4) = v := by omega
        have q9 : IntKind.i64.wrap (v : Int) = (v : Int) := IntWalk.i64_in _ (by omega)
        by_cases hcap4 : cap = p + 4
        · obtain rfl : v = 0 := by omega
          obtain rfl := htx rfl
          clear htx hcv
          subst hcap4
          clear q2 q5 q7 q8 q9
          have q6 : (p : Int) + 4 ≤ ((p + 4 : Nat) : Int) := by omega
          go_enter Tryz.func79, Tryz.ntmps79
          go_wp2_with fail
          refine (cut_left c B p bs w hC).mono ?_
          rintro e w' ⟨rfl, n, rfl⟩
          go_wp2_with fail
          refine (HSM.out n).mono ?_
          rintro e w' ⟨rfl, m, rfl⟩
          go_wp2_with fail
          refine (HLF.out (n + m)).mono ?_
          rintro e w' ⟨rfl, q, rfl⟩
          go_wp2_with fail
          go_quiet (fail)
          go_wp2
          go_ret2
          exact ⟨rfl, hC.moved (n + m + q + nq) 4 (by omega) _ (by omega)⟩
        · clear htx hcv0
          go_enter Tryz.func79, Tryz.ntmps79
          go_wp2_with fail
          refine (cut_left c B p bs w hC).mono ?_
          rintro e w' ⟨rfl, n, rfl⟩
          go_wp2_with fail
          refine (HSM.out n).mono ?_
          rintro e w' ⟨rfl, m, rfl⟩
          go_wp2_with fail
          refine (HLF.out (n + m)).mono ?_
          rintro e w' ⟨rfl, q, rfl⟩
          go_wp2_with fail
          go_quiet (fail)
          go_wp2
          go_ret2
          exact ⟨rfl, hC.moved (n + m + q + nq) (4 + v) (by omega) _ (by omega)⟩
end Go.Proofs.YtbhpbiimfcdgaaaGreat
