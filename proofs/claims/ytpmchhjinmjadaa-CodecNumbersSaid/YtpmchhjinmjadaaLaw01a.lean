/-
  The chapter's examples, which the statements of layer 1 ask first: by contract.
-/
import Derived.Test.YtpmchhjinmjadaaCodecB
import Derived.Test.YtpmchhjinmjadaaCodecR
import Derived.Test.YtpmchhjinmjadaaRef01
namespace Go.Proofs.Ytpmchhjinmjadaa
open Go.RowKit

/-- The bytes of a number, the lowest first. -/
def lowB (v : Int) (k : Nat) : List UInt8 := (List.range k).map fun i => UInt8.ofNat (v / 2 ^ (8 * i) % 256).toNat
@[simp] theorem length_lowB (v : Int) (k : Nat) : (lowB v k).length = k := by simp [lowB]
theorem low_lowB (v : Int) (k : Nat) : low v k = cb (lowB v k) := by
  unfold low lowB cb
  rw [List.map_map]
  apply List.map_congr_left
  intro i _
  have h : (UInt8.ofNat (v / 2 ^ (8 * i) % 256).toNat).toNat = (v / 2 ^ (8 * i) % 256).toNat := by
    simp only [UInt8.toNat_ofNat']
    omega
  simp only [Function.comp_apply, h]
  congr 1
  omega

/-- A new block that holds bytes reads as them. -/
theorem Rd.new (w : World) (bs : List UInt8) (t : TypeId) : Rd (w.alloc (.cells (cb bs).toArray t)) (w.heap.size + 1) (some ⟨w.heap.size, 0, none⟩) (cb bs) := by
  have h := Rd.row (off := 0) (n := (cb bs).length) (heap_alloc_new w (.cells (cb bs).toArray t)) (Nat.lt_succ_self _) (by omega)
  rw [List.drop_zero, List.take_length] at h
  exact h

/-- 'string(b)' over a new block. -/
theorem str_new (w : World) (bs : List UInt8) (n c : Nat) (hn : bs.length = n) :
    (convert 22 9 (.slice (some ⟨w.heap.size, 0, none⟩) n c)).run Try.prog (w.alloc (.cells (cb bs).toArray 5)) = .ok (.string ⟨bs.toArray⟩) (w.alloc (.cells (cb bs).toArray 5)) :=
  run_string_of (Rd.new w bs _) _ _ 5 n c hn Try.underlying22 Try.underlying5 Try.underlying9

theorem below_row {B r : Nat} {w w1 w2 : World} (h : Below B w w1) (hg : w1.grownBy w2 (some r)) (hr : B ≤ r) (hB : B ≤ w.heap.size) : Below B w w2 :=
  h.grown hg (by have := h.size; omega) (fun k hk => by simp only [Option.some.injEq] at hk; omega)

set_option maxHeartbeats 400000 in
theorem puts_any (w : World) : Calls Try.prog 15 #[] w fun e w' => e = .returned (.bool true) ∧ Below w.heap.size w w' := by
  have hx : low 258 4 = cb [2, 1, 0, 0] := rfl
  go_enter Try.func15, Try.ntmps15
  go_wp2_with fail
  refine (put_number_ok none 0 0 258 [] 0 w rfl Rd.nil (Nat.zero_le _) (by simp) (by omega) (by omega) (by omega)).mono ?_
  rintro e w' ⟨rfl, rfl⟩
  rw [hx, List.nil_append]
  clear hx
  have hcv := run_string_of (P := Try.prog) ((Rd.new w [2, 1, 0, 0] 5).alloc (by simp) (.cells #[.int .u8 255] 5)) 22 9 5 4 4 rfl Try.underlying22 Try.underlying5 Try.underlying9
  go_wp2_with fail
  refine (put_number_no _ _ _ 1000000001 _ (by omega)).mono ?_
  rintro e w' ⟨rfl, rfl⟩
  go_wp2
  go_ret
  exact ⟨rfl, ((Below.refl _ _).alloc (Nat.le_refl _) _).alloc (by simp) _⟩

set_option maxHeartbeats 400000 in
theorem lays_any (w : World) : Calls Try.prog 17 #[] w fun e w' => e = .returned (.bool true) ∧ Below w.heap.size w w' := by
  have hx : low (IntKind.u64.wrap (-2)) 8 = cb [254, 255, 255, 255, 255, 255, 255, 255] := rfl
  go_enter Try.func17, Try.ntmps17
  go_wp2_with fail
  refine (put_int_any none 0 0 (-2) [] 0 w rfl Rd.nil (Nat.zero_le _) (by simp) (by omega)).mono ?_
  rintro e w' ⟨rfl, rfl⟩
  rw [hx, List.nil_append]
  clear hx
  have hcv := str_new w [254, 255, 255, 255, 255, 255, 255, 255] 8 8 rfl
  go_wp2
  go_ret
  exact ⟨rfl, (Below.refl _ _).alloc (Nat.le_refl _) _⟩

set_option maxHeartbeats 400000 in
theorem writes_any (w : World) : Calls Try.prog 21 #[] w fun e w' => e = .returned (.bool true) ∧ Below w.heap.size w w' := by
  have hx : cb [7] ++ low 2 4 ++ cb [97, 98] = cb [7, 2, 0, 0, 0, 97, 98] := rfl
  go_enter Try.func21, Try.ntmps21
  go_wp2_with fail
  refine (put_text_ok (some ⟨w.heap.size, 0, none⟩) 1 1 ⟨#[97, 98]⟩ (cb [7]) (w.heap.size + 1) _ rfl (Rd.new w [7] 5) (by simp) (cb_one _) (by omega) (by decide)).mono ?_
  rintro e w' ⟨rfl, rfl⟩
  rw [show ((⟨#[97, 98]⟩ : ByteArray).size : Int) = 2 from rfl, show (⟨#[97, 98]⟩ : ByteArray).data.toList = [97, 98] from rfl, hx, show 1 + 4 + (⟨#[97, 98]⟩ : ByteArray).size = 7 from rfl]
  clear hx
  have hcv := str_new (w.alloc (.cells (cb [7]).toArray 5)) [7, 2, 0, 0, 0, 97, 98] 7 7 rfl
  rw [show (w.alloc (.cells (cb [7]).toArray 5)).heap.size = w.heap.size + 1 from by simp] at hcv
  go_wp2
  go_ret
  exact ⟨rfl, ((Below.refl _ _).alloc (Nat.le_refl _) _).alloc (by simp) _⟩

set_option maxHeartbeats 400000 in
theorem reads_any (w : World) : Calls Try.prog 31 #[] w fun e w' => e = .returned (.bool true) ∧ Below w.heap.size w w' := by
  go_enter Try.func31, Try.ntmps31
  go_wp2_with fail
  have hb0 := (Below.refl w.heap.size w).alloc (Nat.le_refl _) (.cells (cb [2, 1, 0, 0, 1, 0, 0, 0, 97]).toArray 5)
  refine (new_any (some ⟨w.heap.size, 0, none⟩) 9 9 (w.heap.size + 1) [2, 1, 0, 0, 1, 0, 0, 0, 97] _ rfl (Rd.new w [2, 1, 0, 0, 1, 0, 0, 0, 97] 5) (by simp) (by omega)).mono ?_
  rintro e w1 ⟨rfl, hR, hb, hz⟩
  have hb1 : Below w.heap.size w w1 := hb0.trans (hb.mono (by simp))
  clear hb0 hb hz
  rw [show (w.alloc (.cells (cb [2, 1, 0, 0, 1, 0, 0, 0, 97]).toArray 5)).heap.size = w.heap.size + 1 from by simp] at *
  have hr : w.heap.size ≤ w.heap.size + 1 + 1 := by omega
  generalize w.heap.size + 1 + 1 = r at *
  go_wp2_with fail
  refine (number_any r r _ _ hR).mono ?_
  rintro e w2 ⟨rfl, hR, hg⟩
  have hb2 := below_row hb1 hg hr (Nat.le_refl _)
  clear hb1 hg
  rw [show numV [2, 1, 0, 0, 1, 0, 0, 0, 97] = 258 from by decide, show numE [2, 1, 0, 0, 1, 0, 0, 0, 97] = 0 from by decide]
  rw [show ([2, 1, 0, 0, 1, 0, 0, 0, 97] : List UInt8).drop (numK [2, 1, 0, 0, 1, 0, 0, 0, 97]) = [1, 0, 0, 0, 97] from by decide] at hR
  go_wp2_with fail
  refine (text_any r r _ _ hR).mono ?_
  rintro e w3 ⟨rfl, hR, hg⟩
  have hb3 := below_row hb2 hg hr (Nat.le_refl _)
  clear hb2 hg
  rw [show txtV [1, 0, 0, 0, 97] = [97] from by decide, show txtE [1, 0, 0, 0, 97] = 0 from by decide]
  rw [show ([1, 0, 0, 0, 97] : List UInt8).drop (txtK [1, 0, 0, 0, 97]) = [] from by decide] at hR
  go_wp2_with fail
  refine (number_any r r _ _ hR).mono ?_
  rintro e w4 ⟨rfl, hR, hg⟩
  have hb4 := below_row hb3 hg hr (Nat.le_refl _)
  clear hb3 hg
  rw [show numV [] = 0 from by decide, show numE [] = 10 from by decide]
  go_wp2
  go_ret
  exact ⟨rfl, hb4⟩
end Go.Proofs.Ytpmchhjinmjadaa
