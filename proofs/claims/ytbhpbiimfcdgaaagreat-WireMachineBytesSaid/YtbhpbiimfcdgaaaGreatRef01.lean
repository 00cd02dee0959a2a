/-
  The document's answer for layer 1, by contract: Low, Of, Number, Int, Text.
-/
import Derived.Test.YtbhpbiimfcdgaaaGreatCodecA
import Derived.Lib.AppendStr
namespace Go.Proofs.YtbhpbiimfcdgaaaGreat
open Go.RowKit

theorem cell_new (w : World) (v : Value) (t : TypeId) : ∀ j u, [v][j]? = some u → (w.alloc (.cells #[v] t)).cell? ((⟨w.heap.size, 0, none⟩ : Addr).add j) = some u := by
  intro j u h
  obtain ⟨hj, rfl⟩ := List.getElem?_eq_some_iff.1 h
  simp at hj
  subst hj
  simp [Addr.add, cell_of_row _ _ _ _ _ _ (heap_alloc_new w (.cells #[v] t))]

theorem ediv_step (v : Int) (k : Nat) : v / 2 ^ (8 * k) / 256 = v / 2 ^ (8 * (k + 1)) := by
  rw [Int.ediv_ediv_of_nonneg (Int.pow_nonneg (by omega))]
  congr 1
  rw [Nat.mul_add, Int.pow_add]; rfl

set_option maxHeartbeats 800000 in
theorem low_any (v : Int) (n : Nat) (w : World) (h0 : 0 ≤ v) (hv : v < 18446744073709551616) (hn : n ≤ 8) :
    Calls Tryz.prog 97 #[.int .u64 v, .int .i64 (n : Int)] w fun e w' =>
      ∃ o, e = .returned o ∧ w'.ownsRow w.heap.size 5 1 o n (low v n) ∧ Below w.heap.size w w' := by
  obtain ⟨i0, hi, hz0, hz1, hz2⟩ := info_parts info_byte
  go_enter Tryz.func97, Tryz.ntmps97
  go_wp2
  go_loopw [0, 5, 6] (fun x o i wr => ∃ k : Nat, k ≤ n ∧ i = .int .i64 k ∧ x = .int .u64 (v / 2 ^ (8 * k)) ∧ wr.ownsRow w.heap.size 5 1 o k (low v k) ∧ Below w.heap.size w wr) (fun _ _ i _ => n - (intOf i).toNat)
  case atStart => exact ⟨0, Nat.zero_le _, rfl, by simp, World.ownsRow_nil _ _ _ _, Below.refl _ _⟩
  case round =>
    obtain ⟨k, hk, rfl, rfl, hown, hb⟩ := hrel
    have hx0 : 0 ≤ v / 2 ^ (8 * k) := Int.ediv_nonneg h0 (Int.pow_nonneg (by omega))
    have hx1 : v / 2 ^ (8 * k) < 18446744073709551616 := Int.lt_of_le_of_lt (Int.ediv_le_self _ h0) hv
    have hst := ediv_step v k
    have HST := Lib.hid hst; clear hst
    generalize hx : v / 2 ^ (8 * k) = x at *
    have HX := Lib.hid hx; clear hx
    by_cases hlt : k < n
    · go_wp2_with (at_builtin; refine wpList_append_own _ rfl _ _ 22 rfl w.heap.size 5 i0 (.int .u8 0) 1 1 Tryz.underlying22 hi hz0 hz1 hz2 rfl (by decide) _ _ _ rfl (hown.alloc _) ⟨_, 0, none⟩ 1 1 [.int .u8 (x % 256)] rfl rfl ?c1 ?c2 ?c3 ?c4 ?c5 ?_)
      case c1 => exact cell_new _ _ _
      case c2 => intro u hu; simp at hu; subst hu; rfl
      case c3 => unfold maxLen; omega
      case c4 => omega
      case c5 => have := hb.size; simp; omega
      intro o' w' hown' hgrow _
      have hb' := (hb.alloc hb.size (.cells #[.int .u8 (x % 256)] 5)).grown hgrow (by have := hb.size; simp; omega) (fun j hj => (hown.lt j hj).1)
      go_wp2
      go_roundw
      case rel =>
        refine ⟨k + 1, by omega, by go_num, by rw [HST.out], ?_, hb'⟩
        rw [low_succ, HX.out]
        exact hown'
      case measure => simp [intOf]; omega
    · obtain rfl : k = n := by omega
      go_wp2
      go_ret
      exact ⟨_, rfl, hown, hb⟩

theorem le_drop_step (bs : List UInt8) (k : Nat) (h : k < bs.length) : le (bs.drop k) = bs[k].toNat + 256 * le (bs.drop (k + 1)) := by
  rw [List.drop_eq_getElem_cons h]; rfl

theorem le_drop_lt (bs : List UInt8) (k : Nat) (h : bs.length ≤ 8) : (le (bs.drop k) : Int) < 18446744073709551616 := by
  have h1 := le_lt (bs.drop k)
  have h2 : 256 ^ (bs.drop k).length ≤ 256 ^ 8 := Nat.pow_le_pow_right (by omega) (by simp; omega)
  rw [show (256 : Nat) ^ 8 = 18446744073709551616 from by decide] at h2
  have h3 := Nat.lt_of_lt_of_le h1 h2
  omega

set_option maxHeartbeats 800000 in
theorem of_any (a : Option Addr) (n cap : Nat) (bs : List UInt8) (B : Nat) (w : World) (hl : bs.length = n) (hr : Rd w B a (cb bs)) (hn : n ≤ 8) :
    Calls Tryz.prog 110 #[.slice a n cap] w fun e w' => e = .returned (.int .u64 (le bs)) ∧ w = w' := by
  have HL := Lib.hid hl; clear hl
  go_enter Tryz.func110, Tryz.ntmps110
  go_wp2
  go_loop [3, 4] (fun m i => ∃ k : Nat, k ≤ n ∧ i = .int .i64 ((k : Int) - 1) ∧ m = .int .u64 (le (bs.drop k))) (fun _ i => (intOf i + 1).toNat)
  case atStart => exact ⟨n, Nat.le_refl _, rfl, by rw [List.drop_of_length_le (by rw [HL.out]; omega)]; rfl⟩
  case round =>
    obtain ⟨k, hk, rfl, rfl⟩ := hrel
    by_cases hlt : 0 < k
    · obtain ⟨j, rfl⟩ : ∃ j, k = j + 1 := ⟨k - 1, by omega⟩
      rw [show (((j + 1 : Nat) : Int) - 1) = (j : Int) from by omega]
      obtain ⟨b, o, rfl, _, hc⟩ := hr.pos (by rw [length_cb, HL.out]; omega)
      have hck := hc j (by rw [length_cb, HL.out]; omega)
      clear hc
      simp only [cb, List.getElem_map] at hck
      have hs := le_drop_step bs j (by rw [HL.out]; omega)
      have hlt1 := le_drop_lt bs j (by rw [HL.out]; omega)
      have hb8 := (bs[j]'(by rw [HL.out]; omega)).toNat_lt
      generalize (bs[j]'(by rw [HL.out]; omega)).toNat = x at *
      generalize le (bs.drop (j + 1)) = y at *
      have hs' : (le (bs.drop j) : Int) = (x : Int) + 256 * (y : Int) := by omega
      rw [hs'] at hlt1
      have HS := Lib.hid hs'; clear hs' hs
      go_wp2
      go_round
      case rel => exact ⟨j, by omega, rfl, by rw [HS.out, Int.add_comm]⟩
      case measure => simp [intOf]
    · obtain rfl : k = 0 := by omega
      go_wp2
      go_ret
      exact ⟨rfl, rfl⟩

/-- What a row of the call's own reads as. -/
theorem Rd.own {w : World} {base : Nat} {e : TypeId} {v : Value} {n : Nat} {xs : List Value} (h : w.ownsRow base e 1 v n xs) : ∃ a cap, v = .slice a n cap ∧ Rd w w.heap.size a xs ∧ xs.length = n := by
  have hl : xs.length = n := by have := h.1; omega
  rcases h.2 with ⟨rfl, rfl⟩ | ⟨g, cap, cur, rfl, hb, hg, hc, hm, hs, ht⟩
  · exact ⟨none, 0, rfl, .inl (List.eq_nil_of_length_eq_zero hl), hl⟩
  · refine ⟨_, cap, rfl, .inr ⟨g, 0, rfl, (h.lt g rfl).2, fun i hi => ?_⟩, hl⟩
    rw [cell_of_row w g (0 + i) cur e (0, 0) hg]
    subst ht
    simp at hi hs
    simp [Array.getElem?_eq_getElem (show i < cur.size by omega)]

theorem ref_number_no (v : Int) (w : World) (hv : v < 0 ∨ 1000000000 < v) :
    Calls Tryz.prog 80 #[.int .i64 v] w fun e w' => e = .returned (.tuple #[.slice none 0 0, .bool false]) ∧ w = w' := by
  by_cases h0 : v < 0
  · go_enter Tryz.func80, Tryz.ntmps80
    go_wp2_with fail
    go_ret2
    exact ⟨rfl, rfl⟩
  · have h1 : 1000000000 < v := by omega
    go_enter Tryz.func80, Tryz.ntmps80
    go_wp2_with fail
    go_ret2
    exact ⟨rfl, rfl⟩

theorem ref_number_ok (v : Int) (w : World) (h0 : 0 ≤ v) (hv : v ≤ 1000000000) :
    Calls Tryz.prog 80 #[.int .i64 v] w fun e w' =>
      ∃ o, e = .returned (.tuple #[o, .bool true]) ∧ w'.ownsRow w.heap.size 5 1 o 4 (low v 4) ∧ Below w.heap.size w w' := by
  go_enter Tryz.func80, Tryz.ntmps80
  go_wp2_with fail
  refine (low_any v 4 w h0 (by omega) (by omega)).mono ?_
  rintro e w' ⟨o, rfl, hown, hb⟩
  go_wp2_with fail
  go_ret2
  exact ⟨o, rfl, hown, hb⟩

theorem ref_int_any (v : Int) (w : World) :
    Calls Tryz.prog 119 #[.int .i64 v] w fun e w' =>
      ∃ o, e = .returned o ∧ w'.ownsRow w.heap.size 5 1 o 8 (low (IntKind.u64.wrap v) 8) ∧ Below w.heap.size w w' := by
  have h0 : 0 ≤ IntKind.u64.wrap v := by rw [IntKind.wrap_u64]; omega
  have h1 : IntKind.u64.wrap v < 18446744073709551616 := by rw [IntKind.wrap_u64]; omega
  go_enter Tryz.func119, Tryz.ntmps119
  go_wp2_with fail
  refine (low_any _ 8 w h0 h1 (by omega)).mono ?_
  rintro e w' ⟨o, rfl, hown, hb⟩
  go_wp2_with fail
  go_ret
  exact ⟨o, rfl, hown, hb⟩

theorem ref_text_no (s : ByteArray) (w : World) (hs : s.size ≤ maxLen) (hv : 65536 < s.size) :
    Calls Tryz.prog 82 #[.string s] w fun e w' => e = .returned (.tuple #[.slice none 0 0, .bool false]) ∧ w = w' := by
  unfold maxLen at hs
  go_enter Tryz.func82, Tryz.ntmps82
  go_wp2_with fail
  go_ret2
  exact ⟨rfl, rfl⟩

set_option maxRecDepth 100000 in
theorem ref_text_ok (s : ByteArray) (w : World) (hv : s.size ≤ 65536) :
    Calls Tryz.prog 82 #[.string s] w fun e w' =>
      ∃ o, e = .returned (.tuple #[o, .bool true]) ∧ w'.ownsRow w.heap.size 5 1 o (4 + s.size) (low s.size 4 ++ cb s.data.toList) ∧ Below w.heap.size w w' := by
  obtain ⟨i0, hi, hz0, hz1, hz2⟩ := info_parts info_byte
  go_enter Tryz.func82, Tryz.ntmps82
  go_wp2_with fail
  refine (low_any (s.size : Int) 4 w (by omega) (by omega) (by omega)).mono ?_
  rintro e w1 ⟨o, rfl, hown, hb⟩
  go_wp2_with (at_builtin; refine Lib.wpList_append_own_string _ rfl _ _ 22 9 rfl w.heap.size 5 i0 Tryz.underlying22 Tryz.underlying9 hi hz0 hz1 hz2 _ _ _ rfl hown s rfl ?c1 ?c2 hb.size ?_)
  case c1 => unfold maxLen; omega
  case c2 => omega
  intro o' w2 hown' hgrow _
  have hb' := hb.grown hgrow hb.size (fun j hj => (hown.lt j hj).1)
  go_wp2
  go_ret2
  exact ⟨o', rfl, hown', hb'⟩
end Go.Proofs.YtbhpbiimfcdgaaaGreat
