/-
  codec's reader, by contract: New, peekNumber, Number, Int, Text, Left; what they answer as plain functions of the bytes that are left.
-/
import Derived.Test.YtbhpbiimfcdgaaaGreatCodecA
namespace Go.Proofs.YtbhpbiimfcdgaaaGreat
open Go.RowKit

/-- Block 'r' is a reader (type 'T') that has 'bs' left, whose bytes lie below block B. -/
def IsR (w : World) (r B : Nat) (bs : List UInt8) : Prop :=
  B ≤ r ∧ ∃ a cap, w.heap[r]? = some (.cells #[.slice a bs.length cap] 182 (0, 0)) ∧ Rd w B a (cb bs) ∧ bs.length ≤ cap ∧ cap ≤ maxLen

/-- What a number that comes next is, its code, and how many bytes it takes. -/
def numV (bs : List UInt8) : Int := if bs.length < 4 then 0 else if 1000000000 < le (bs.take 4) then 0 else (le (bs.take 4) : Int)
def numE (bs : List UInt8) : Int := if bs.length < 4 then 10 else if 1000000000 < le (bs.take 4) then 11 else 0
def numK (bs : List UInt8) : Nat := if bs.length < 4 then 0 else if 1000000000 < le (bs.take 4) then 0 else 4
def intV (bs : List UInt8) : Int := if bs.length < 8 then 0 else wrap64 (le (bs.take 8) : Int)
def intE (bs : List UInt8) : Int := if bs.length < 8 then 10 else 0
def intK (bs : List UInt8) : Nat := if bs.length < 8 then 0 else 8
def txtE (bs : List UInt8) : Int := if bs.length < 4 then 10 else if 65536 < le (bs.take 4) then 11 else if bs.length < 4 + le (bs.take 4) then 10 else 0
def txtK (bs : List UInt8) : Nat := if bs.length < 4 then 0 else if 65536 < le (bs.take 4) then 0 else if bs.length < 4 + le (bs.take 4) then 0 else 4 + le (bs.take 4)
def txtV (bs : List UInt8) : List UInt8 := if bs.length < 4 then [] else if 65536 < le (bs.take 4) then [] else if bs.length < 4 + le (bs.take 4) then [] else (bs.drop 4).take (le (bs.take 4))

theorem num_short {bs : List UInt8} (h : bs.length < 4) : numV bs = 0 ∧ numE bs = 10 ∧ numK bs = 0 := by simp [numV, numE, numK, h]
theorem num_form {bs : List UInt8} (h : ¬ bs.length < 4) (hm : 1000000000 < le (bs.take 4)) : numV bs = 0 ∧ numE bs = 11 ∧ numK bs = 0 := by simp [numV, numE, numK, h, hm]
theorem num_ok {bs : List UInt8} (h : ¬ bs.length < 4) (hm : ¬ 1000000000 < le (bs.take 4)) : numV bs = le (bs.take 4) ∧ numE bs = 0 ∧ numK bs = 4 := by simp [numV, numE, numK, h, hm]
theorem int_short {bs : List UInt8} (h : bs.length < 8) : intV bs = 0 ∧ intE bs = 10 ∧ intK bs = 0 := by simp [intV, intE, intK, h]
theorem int_ok {bs : List UInt8} (h : ¬ bs.length < 8) : intV bs = wrap64 (le (bs.take 8)) ∧ intE bs = 0 ∧ intK bs = 8 := by simp [intV, intE, intK, h]
theorem txt_short {bs : List UInt8} (h : bs.length < 4) : txtV bs = [] ∧ txtE bs = 10 ∧ txtK bs = 0 := by simp [txtV, txtE, txtK, h]
theorem txt_form {bs : List UInt8} (h : ¬ bs.length < 4) (hm : 65536 < le (bs.take 4)) : txtV bs = [] ∧ txtE bs = 11 ∧ txtK bs = 0 := by simp [txtV, txtE, txtK, h, hm]
theorem txt_end {bs : List UInt8} (h : ¬ bs.length < 4) (hm : ¬ 65536 < le (bs.take 4)) (hs : bs.length < 4 + le (bs.take 4)) : txtV bs = [] ∧ txtE bs = 10 ∧ txtK bs = 0 := by simp [txtV, txtE, txtK, h, hm, hs]
theorem txt_ok {bs : List UInt8} (h : ¬ bs.length < 4) (hm : ¬ 65536 < le (bs.take 4)) (hs : ¬ bs.length < 4 + le (bs.take 4)) : txtV bs = (bs.drop 4).take (le (bs.take 4)) ∧ txtE bs = 0 ∧ txtK bs = 4 + le (bs.take 4) := by simp [txtV, txtE, txtK, h, hm, hs]

section
variable {w w' : World} {r B : Nat} {bs : List UInt8}
theorem IsR.lt (h : IsR w r B bs) : r < w.heap.size := by
  obtain ⟨_, a, cap, hh, _⟩ := h
  rcases Nat.lt_or_ge r w.heap.size with hlt | hge
  · exact hlt
  · rw [Array.getElem?_eq_none hge] at hh; cases hh
theorem IsR.keep (h : IsR w r B bs) (hr : w'.heap[r]? = w.heap[r]?) (hk : ∀ k, k < B → w'.heap[k]? = w.heap[k]?) : IsR w' r B bs := by
  obtain ⟨hB, a, cap, hh, hrd, hc, hm⟩ := h
  exact ⟨hB, a, cap, hr.trans hh, hrd.keep (fun p hp => World.cell?_of_block (hk p.block hp)), hc, hm⟩
theorem IsR.grown {row : Option Nat} (h : IsR w r B bs) (hg : w.grownBy w' row) (hne : ∀ k, row = some k → B ≤ k ∧ k ≠ r) : IsR w' r B bs :=
  h.keep (hg.block r h.lt (fun e => (hne r e.symm).2 rfl)) (fun k hk => hg.block k (by have := h.1; have := h.lt; omega) (fun e => by have := (hne k e.symm).1; omega))
theorem IsR.stored (h : IsR w r B bs) {bs' : List UInt8} {a' : Option Addr} {n' cap' : Nat} (hrd : Rd w B a' (cb bs')) (hn : bs'.length = n') (hc : n' ≤ cap') (hm : cap' ≤ maxLen) :
    IsR (w.setCell ⟨r, 0, none⟩ (.slice a' n' cap')) r B bs' ∧ w.grownBy (w.setCell ⟨r, 0, none⟩ (.slice a' n' cap')) (some r) := by
  obtain ⟨hB, a, cap, hh, _, _, _⟩ := h
  subst hn
  refine ⟨⟨hB, a', cap', ?_, hrd.keep (fun p hp => ?_), hc, hm⟩, ⟨rfl, rfl, rfl, by simp [World.setCell], fun k _ hk => ?_⟩⟩
  · have := heap_setCell_same w r 0 _ _ (.slice a' bs'.length cap') hh
    simpa using this
  · exact World.cell?_of_block (Below.heap_setCell _ _ _ _ (by simp; omega))
  · exact Below.heap_setCell _ _ _ _ (fun e => hk (by simp [e]))
/-- What the reader's cell holds. -/
theorem IsR.open_ (h : IsR w r B bs) : ∃ a cap, w.cell? ⟨r, 0, none⟩ = some (.slice a bs.length cap) ∧ w.frozen? ⟨r, 0, none⟩ = false ∧ Rd w B a (cb bs) ∧ bs.length ≤ cap ∧ cap ≤ maxLen := by
  obtain ⟨_, a, cap, hh, hrd, hc, hm⟩ := h
  exact ⟨a, cap, by simpa using cell_of_row w r 0 _ _ _ hh, frozen_of_row w r 0 _ _ hh, hrd, hc, hm⟩
/-- Behind 'r.rest = r.rest[k:]', k below the capacity. -/
theorem IsR.cut_on (h : IsR w r B bs) {b o n cap k : Nat} (hrd : Rd w B (some ⟨b, o, none⟩) (cb bs)) (hn : bs.length = n) (hc : n ≤ cap) (hm : cap ≤ maxLen) (_hk : k ≤ n) :
    IsR (w.setCell ⟨r, 0, none⟩ (.slice (some ⟨b, o + k, none⟩) (n - k) (cap - k))) r B (bs.drop k) ∧ w.grownBy (w.setCell ⟨r, 0, none⟩ (.slice (some ⟨b, o + k, none⟩) (n - k) (cap - k))) (some r) :=
  h.stored (by rw [← cb_drop]; exact hrd.drop k) (by rw [List.length_drop, hn]) (by omega) (by omega)
/-- The same where nothing is left behind: the address is of no account. -/
theorem IsR.cut_end (h : IsR w r B bs) {a : Option Addr} {n m c k : Nat} (hn : bs.length = n) (hk : n ≤ k) (hm : m = 0) (hc : c ≤ maxLen) :
    IsR (w.setCell ⟨r, 0, none⟩ (.slice a m c)) r B (bs.drop k) ∧ w.grownBy (w.setCell ⟨r, 0, none⟩ (.slice a m c)) (some r) := by
  subst hm
  have e : bs.drop k = [] := List.drop_eq_nil_of_le (by omega)
  rw [e]
  exact h.stored (by exact Rd.nil) rfl (Nat.zero_le _) hc
end

set_option maxHeartbeats 400000 in
theorem peek_short (r B : Nat) (bs : List UInt8) (most : Int) (w : World) (h : IsR w r B bs) (hl : bs.length < 4) :
    Calls Tryz.prog 92 #[.pointer (some ⟨r, 0, none⟩), .int .u64 most] w fun e w' => e = .returned (.tuple #[.int .i64 0, .int .i64 10]) ∧ w = w' := by
  obtain ⟨_, a, cap, hh, hrd, hcap, hm⟩ := h
  have hc := cell_of_row w r 0 _ _ _ hh
  simp only [List.getElem?_toArray, List.getElem?_cons_zero] at hc
  generalize bs.length = n at *
  unfold maxLen at hm
  clear hh
  go_enter Tryz.func92, Tryz.ntmps92
  go_wp2_with fail
  go_ret2
  exact ⟨rfl, rfl⟩

set_option maxHeartbeats 400000 in
theorem peek_form (r B : Nat) (bs : List UInt8) (most : Int) (w : World) (h : IsR w r B bs) (hl : 4 ≤ bs.length) (hmost : most < (le (bs.take 4) : Int)) :
    Calls Tryz.prog 92 #[.pointer (some ⟨r, 0, none⟩), .int .u64 most] w fun e w' =>
      e = .returned (.tuple #[.int .i64 0, .int .i64 11]) ∧ w = w' := by
  obtain ⟨_, a, cap, hh, hrd, hcap, hm⟩ := h
  have hc := cell_of_row w r 0 _ _ _ hh
  simp only [List.getElem?_toArray, List.getElem?_cons_zero] at hc
  have hrd4 := hrd.take 4
  rw [cb_take] at hrd4
  have h4 : (bs.take 4).length = 4 := by simp; omega
  have hlt := le_lt (bs.take 4)
  rw [h4] at hlt
  generalize hv : le (bs.take 4) = v at *
  have HV := Lib.hid hv; clear hv
  generalize bs.length = n at *
  unfold maxLen at hm
  clear hh
  have H4 := Lib.hid h4; clear h4
  go_enter Tryz.func92, Tryz.ntmps92
  go_wp2_with fail
  refine (join_any a 4 cap (bs.take 4) B w H4.out hrd4 (by omega)).mono ?_
  rintro e w' ⟨rfl, rfl⟩
  rw [HV.out]
  go_wp2
  go_ret2
  exact ⟨rfl, rfl⟩

set_option maxHeartbeats 400000 in
theorem peek_ok (r B : Nat) (bs : List UInt8) (most : Int) (w : World) (h : IsR w r B bs) (hl : 4 ≤ bs.length) (hmost : (le (bs.take 4) : Int) ≤ most) :
    Calls Tryz.prog 92 #[.pointer (some ⟨r, 0, none⟩), .int .u64 most] w fun e w' =>
      e = .returned (.tuple #[.int .i64 (le (bs.take 4)), .int .i64 0]) ∧ w = w' := by
  obtain ⟨_, a, cap, hh, hrd, hcap, hm⟩ := h
  have hc := cell_of_row w r 0 _ _ _ hh
  simp only [List.getElem?_toArray, List.getElem?_cons_zero] at hc
  have hrd4 := hrd.take 4
  rw [cb_take] at hrd4
  have h4 : (bs.take 4).length = 4 := by simp; omega
  have hlt := le_lt (bs.take 4)
  rw [h4] at hlt
  generalize hv : le (bs.take 4) = v at *
  have HV := Lib.hid hv; clear hv
  generalize bs.length = n at *
  unfold maxLen at hm
  clear hh
  have H4 := Lib.hid h4; clear h4
  go_enter Tryz.func92, Tryz.ntmps92
  go_wp2_with fail
  refine (join_any a 4 cap (bs.take 4) B w H4.out hrd4 (by omega)).mono ?_
  rintro e w' ⟨rfl, rfl⟩
  rw [HV.out]
  go_wp2
  go_ret2
  exact ⟨rfl, rfl⟩

theorem number_nil (w : World) :
    Calls Tryz.prog 70 #[.pointer none] w fun e w' => e = .returned (.tuple #[.int .i64 0, .int .i64 3]) ∧ w = w' := by
  go_enter Tryz.func70, Tryz.ntmps70
  go_wp2_with fail
  go_ret2
  exact ⟨rfl, rfl⟩

set_option maxHeartbeats 400000 in
theorem number_any (r B : Nat) (bs : List UInt8) (w : World) (hR : IsR w r B bs) :
    Calls Tryz.prog 70 #[.pointer (some ⟨r, 0, none⟩)] w fun e w' =>
      e = .returned (.tuple #[.int .i64 (numV bs), .int .i64 (numE bs)]) ∧ IsR w' r B (bs.drop (numK bs)) ∧ w.grownBy w' (some r) := by
  by_cases hl : bs.length < 4
  · go_enter Tryz.func70, Tryz.ntmps70
    go_wp2_with fail
    refine (peek_short r B bs _ w hR hl).mono ?_
    rintro e w' ⟨rfl, rfl⟩
    go_wp2
    go_ret2
    refine ⟨?_, ?_, World.grownBy.refl _ _⟩
    · show Ending.returned (.tuple #[.int .i64 0, .int .i64 10]) = _
      simp [numV, numE, hl]
    · simpa [numK, hl] using hR
  · by_cases hm : 1000000000 < (le (bs.take 4) : Int)
    · have hm' : 1000000000 < le (bs.take 4) := by omega
      go_enter Tryz.func70, Tryz.ntmps70
      go_wp2_with fail
      refine (peek_form r B bs _ w hR (by omega) hm).mono ?_
      rintro e w' ⟨rfl, rfl⟩
      go_wp2
      go_ret2
      refine ⟨?_, ?_, World.grownBy.refl _ _⟩
      · show Ending.returned (.tuple #[.int .i64 0, .int .i64 11]) = _
        simp [numV, numE, hl, hm']
      · simpa [numK, hl, hm'] using hR
    · have hm' : ¬ 1000000000 < le (bs.take 4) := by omega
      obtain ⟨a, cap, hc, hf, hrd, hcap, hmax⟩ := hR.open_
      obtain ⟨b, o, rfl, _, _⟩ := hrd.pos (by rw [length_cb]; omega)
      have hpk := peek_ok r B bs 1000000000 w hR (by omega) (by omega)
      have Hpk := Lib.hid hpk; clear hpk
      have fin : numV bs = le (bs.take 4) ∧ numE bs = 0 ∧ numK bs = 4 := by simp [numV, numE, numK, hl, hm']
      generalize hv : le (bs.take 4) = v at *
      generalize hn : bs.length = n at *
      have HN := Lib.hid hn; clear hn
      have HV := Lib.hid hv; clear hv
      obtain ⟨f1, f2, f3⟩ := fin
      rw [f1, f2, f3]
      clear f1 f2 f3
      have Hmax := Lib.hid hmax
      unfold maxLen at hmax
      go_enter Tryz.func70, Tryz.ntmps70
      go_wp2_with fail
      refine Hpk.out.mono ?_
      rintro e w' ⟨rfl, rfl⟩
      go_wp2
      case inl =>
        go_ret2
        exact ⟨rfl, hR.cut_end HN.out (by omega) (by omega) (Nat.zero_le _)⟩
      case inr =>
        go_ret2
        exact ⟨rfl, hR.cut_on hrd HN.out hcap Hmax.out (by omega)⟩

theorem int_nil (w : World) :
    Calls Tryz.prog 109 #[.pointer none] w fun e w' => e = .returned (.tuple #[.int .i64 0, .int .i64 3]) ∧ w = w' := by
  go_enter Tryz.func109, Tryz.ntmps109
  go_wp2_with fail
  go_ret2
  exact ⟨rfl, rfl⟩

/-- Two blocks that make a reader. -/
theorem IsR.of_blocks {w : World} {d r n : Nat} {bs : List UInt8} (hn : bs.length = n) (hd : w.heap[d]? = some (.cells (cb bs ++ zb 0).toArray 5 (0, 0)))
    (hr : w.heap[r]? = some (.cells #[.slice (some ⟨d, 0, none⟩) n n] 182 (0, 0))) (hdr : d < r) (hle : n ≤ 4194304) : IsR w r (d + 1) bs := by
  subst hn
  refine ⟨hdr, some ⟨d, 0, none⟩, bs.length, hr, ?_, Nat.le_refl _, by unfold maxLen; omega⟩
  have h2 := Rd.row (n := bs.length) (off := 0) hd (B := d + 1) (by omega) (by simp)
  simpa [zb, List.take_of_length_le] using h2

set_option maxHeartbeats 400000 in
theorem new_exact (a : Option Addr) (n cap B : Nat) (bs : List UInt8) (w : World) (hl : bs.length = n) (hr : Rd w B a (cb bs)) (hB : B ≤ w.heap.size) (hle : n ≤ 4194304) :
    Calls Tryz.prog 68 #[.slice a n cap] w fun e w' =>
      e = .returned (.pointer (some ⟨w.heap.size + 1, 0, none⟩)) ∧ w'.heap[w.heap.size]? = some (.cells (cb bs ++ zb 0).toArray 5 (0, 0)) ∧
      w'.heap[w.heap.size + 1]? = some (.cells #[.slice (some ⟨w.heap.size, 0, none⟩) n n] 182 (0, 0)) ∧ Below w.heap.size w w' ∧ w'.heap.size = w.heap.size + 2 := by
  have HL := Lib.hid hl; clear hl
  go_enter Tryz.func68, Tryz.ntmps68
  go_wp2_with fail
  refine (widen_any a cap n 0 (cb bs) B w (by rw [length_cb, HL.out]) hr hB (cb_one _) (by omega)).mono ?_
  rintro e w' ⟨rfl, rfl⟩
  go_wp2
  go_ret
  refine ⟨rfl, heap_alloc2_old w _ _, ?_, ((Below.refl _ _).alloc (Nat.le_refl _) _).alloc (by simp) _, by simp⟩
  exact heap_alloc2_new w _ _

theorem new_any (a : Option Addr) (n cap B : Nat) (bs : List UInt8) (w : World) (hl : bs.length = n) (hr : Rd w B a (cb bs)) (hB : B ≤ w.heap.size) (hle : n ≤ 4194304) :
    Calls Tryz.prog 68 #[.slice a n cap] w fun e w' =>
      e = .returned (.pointer (some ⟨w.heap.size + 1, 0, none⟩)) ∧ IsR w' (w.heap.size + 1) (w.heap.size + 1) bs ∧ Below w.heap.size w w' ∧ w'.heap.size = w.heap.size + 2 :=
  (new_exact a n cap B bs w hl hr hB hle).mono fun _ _ ⟨he, hd, hr, hb, hz⟩ => ⟨he, IsR.of_blocks hl hd hr (by omega) hle, hb, hz⟩

set_option maxHeartbeats 800000 in
theorem int_any (r B : Nat) (bs : List UInt8) (w : World) (hR : IsR w r B bs) :
    Calls Tryz.prog 109 #[.pointer (some ⟨r, 0, none⟩)] w fun e w' =>
      e = .returned (.tuple #[.int .i64 (intV bs), .int .i64 (intE bs)]) ∧ IsR w' r B (bs.drop (intK bs)) ∧ w.grownBy w' (some r) := by
  obtain ⟨a, cap, hc, hf, hrd, hcap, hmax⟩ := hR.open_
  have Hmax := Lib.hid hmax
  unfold maxLen at hmax
  by_cases hl : bs.length < 8
  · have fin : intV bs = 0 ∧ intE bs = 10 ∧ intK bs = 0 := by simp [intV, intE, intK, hl]
    obtain ⟨f1, f2, f3⟩ := fin
    rw [f1, f2, f3]
    clear f1 f2 f3
    generalize hn : bs.length = n at *
    have HN := Lib.hid hn; clear hn
    go_enter Tryz.func109, Tryz.ntmps109
    go_wp2_with fail
    go_ret2
    exact ⟨rfl, by simpa using hR, World.grownBy.refl _ _⟩
  · obtain ⟨b, o, rfl, _, _⟩ := hrd.pos (by rw [length_cb]; omega)
    have fin : intV bs = wrap64 (le (bs.take 8)) ∧ intE bs = 0 ∧ intK bs = 8 := by simp [intV, intE, intK, hl]
    obtain ⟨f1, f2, f3⟩ := fin
    rw [f1, f2, f3]
    clear f1 f2 f3
    have hrd8 := hrd.take 8
    rw [cb_take] at hrd8
    have h8 : (bs.take 8).length = 8 := by simp; omega
    have H8 := Lib.hid h8; clear h8
    generalize hn : bs.length = n at *
    have HN := Lib.hid hn; clear hn
    go_enter Tryz.func109, Tryz.ntmps109
    go_wp2_with fail
    refine (join_any _ 8 cap (bs.take 8) B w H8.out hrd8 (by omega)).mono ?_
    rintro e w' ⟨rfl, rfl⟩
    go_wp2
    case inl =>
      go_ret2
      exact ⟨rfl, hR.cut_end HN.out (by omega) (by omega) (Nat.zero_le _)⟩
    case inr =>
      go_ret2
      exact ⟨rfl, hR.cut_on hrd HN.out hcap Hmax.out (by omega)⟩

end Go.Proofs.YtbhpbiimfcdgaaaGreat
