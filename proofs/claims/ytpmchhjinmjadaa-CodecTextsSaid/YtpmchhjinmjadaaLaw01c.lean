/-
  Layer 1's statements, walked: texts.
-/
import Derived.Test.YtpmchhjinmjadaaLaw01b
namespace Go.Proofs.Ytpmchhjinmjadaa
open Go.RowKit

set_option maxHeartbeats 1000000 in
theorem walk_texts (a : Option Addr) (n cap : Nat) (bs : List UInt8) (s : ByteArray) (w : World) (hl : bs.length = n) (hr : Rd w w.heap.size a (cb bs)) (hs : s.size ≤ maxLen) :
    Calls Try.prog 5 #[.slice a n cap, .string s] w fun e w' => e = .returned (.bool true) ∧ Below w.heap.size w w' := by
  have HL := Lib.hid hl; clear hl
  have Hs := Lib.hid hs
  unfold maxLen at hs
  by_cases hlong : 262144 < n
  · go_enter Try.func5, Try.ntmps5
    go_wp2_with fail
    go_ret
    exact ⟨rfl, Below.refl _ _⟩
  · by_cases hslong : 262144 < s.size
    · go_enter Try.func5, Try.ntmps5
      go_wp2_with fail
      go_ret
      exact ⟨rfl, Below.refl _ _⟩
    · by_cases hno : 65536 < s.size
      · go_enter Try.func5, Try.ntmps5
        go_wp2_with fail
        refine (lend_any a cap n _ bs w HL.out hr (Nat.le_refl _) (by omega)).mono ?_
        rintro e w' ⟨rfl, rfl⟩
        go_wp2_with fail
        refine (put_text_no _ _ _ s _ Hs.out hno).mono ?_
        rintro e w' ⟨rfl, rfl⟩
        go_wp2_with fail
        refine (back_any a cap n w.heap.size w.heap.size bs _ HL.out (hr.alloc (Nat.le_refl _) _) (Nat.le_refl _) (by omega) (heap_alloc_new w _)).mono ?_
        rintro e w' ⟨rfl, Y, rfl⟩
        rw [setRow_alloc]
        go_wp2_with fail
        refine (ref_text_no s _ Hs.out hno).mono ?_
        rintro e w' ⟨rfl, rfl⟩
        go_wp2_with fail
        refine (writes_any _).mono ?_
        rintro e w2 ⟨rfl, hb2⟩
        go_wp2
        go_ret
        exact ⟨rfl, ((Below.refl _ _).alloc (Nat.le_refl _) _).trans (hb2.mono (by simp))⟩
      · have hsz : s.data.toList.length = s.size := by rw [Array.length_toList]; rfl
        have HSZ := Lib.hid hsz; clear hsz
        have hstr : (⟨s.data.toList.toArray⟩ : ByteArray) = s := by rw [Array.toArray_toList]
        go_enter Try.func5, Try.ntmps5
        go_wp2_with fail
        refine (lend_any a cap n _ bs w HL.out hr (Nat.le_refl _) (by omega)).mono ?_
        rintro e w' ⟨rfl, rfl⟩
        go_wp2_with fail
        refine (put_text_ok (some ⟨w.heap.size, 0, none⟩) n (n + 2) s (cb bs) (w.heap.size + 1) _ (by rw [length_cb, HL.out]) (lent_rd w bs HL.out) (by simp) (cb_one _) (by omega) (by omega)).mono ?_
        rintro e w' ⟨rfl, rfl⟩
        rw [low_lowB, ← cb_append, ← cb_append, List.append_assoc]
        go_wp2_with fail
        refine (back_any a cap n w.heap.size w.heap.size bs _ HL.out ((hr.alloc (Nat.le_refl _) _).alloc (by simp) _) (Nat.le_refl _) (by omega) (heap_alloc2_old w _ _)).mono ?_
        rintro e w' ⟨rfl, Y, rfl⟩
        obtain ⟨hb3, hz3, hr3, hn3⟩ := gave w a bs (bs ++ (lowB s.size 4 ++ s.data.toList)) hr (cb (bs ++ [165, 90])).toArray Y
        generalize World.setRow _ _ Y = w3 at *
        go_wp2_with fail
        refine (ref_text_ok s _ (by omega)).mono ?_
        rintro e w4 ⟨o, rfl, hown, hb4⟩
        obtain ⟨a4, cap4, rfl, hr4, _⟩ := Rd.own hown
        rw [low_lowB, ← cb_append] at hr4
        go_wp2_with fail
        refine (writes_any _).mono ?_
        rintro e w5 ⟨rfl, hb5⟩
        have hcv1 := fun c => run_string_of (P := Try.prog) ((hn3.below hb4 (Nat.le_refl _)).below hb5 hb4.size) 22 9 5 (n + 4 + s.size) c (by simp only [List.length_append, HL.out, length_lowB, HSZ.out]; omega) Try.underlying22 Try.underlying5 Try.underlying9
        have hcv2 := fun c => run_string_of (P := Try.prog) ((hr3.below hb4 (Nat.le_refl _)).below hb5 hb4.size) 22 9 5 n c HL.out Try.underlying22 Try.underlying5 Try.underlying9
        have hcv3 := fun c => run_string_of (P := Try.prog) (hr4.below hb5 (Nat.le_refl _)) 22 9 5 (4 + s.size) c (by simp only [List.length_append, length_lowB, HSZ.out]) Try.underlying22 Try.underlying5 Try.underlying9
        have hfin := str_cat_same bs (lowB s.size 4 ++ s.data.toList)
        have hll : (lowB s.size 4 ++ s.data.toList).length = 4 + s.size := by simp only [List.length_append, length_lowB, HSZ.out]
        clear hstr hr4 hn3 hown
        generalize lowB s.size 4 ++ s.data.toList = X at *
        have hlen : ¬ 9223372036854775807 < bs.length + X.length := by rw [HL.out, hll]; omega
        have HLL := Lib.hid hll; clear hll
        go_wp2
        go_ret
        exact ⟨rfl, hb3.trans ((hb4.trans (hb5.mono hb4.size)).mono hb3.size)⟩
end Go.Proofs.Ytpmchhjinmjadaa
