/-
  Layer 1's statements, walked: whole numbers.
-/
import Derived.Test.YtpmchhjinmjadaaLaw01b
import Derived.Deep.RegionWith
namespace Go.Proofs.Ytpmchhjinmjadaa
open Go.RowKit

theorem gave_drew (w : World) (a : Option Addr) (bs out : List UInt8) (hr : Rd w w.heap.size a (cb bs)) (A Y : Array Value) :
    Gave w (((w.alloc (.cells A 5)).alloc (.cells (cb out).toArray 5)).drew.setRow w.heap.size Y) a bs out := by
  obtain ⟨h1, h2, h3, h4⟩ := gave w a bs out hr A Y
  exact ⟨h1.drew, h2, h3.keep fun _ _ => rfl, h4.keep fun _ _ => rfl⟩

set_option maxHeartbeats 4000000 in
theorem walk_ints (a : Option Addr) (n cap : Nat) (bs : List UInt8) (v : Int) (w : World) (hl : bs.length = n) (hr : Rd w w.heap.size a (cb bs)) :
    Calls Try.prog 4 #[.slice a n cap, .int .i64 v] w fun e w' => e = .returned (.bool true) ∧ Below w.heap.size w w' := by
  have HL := Lib.hid hl; clear hl
  by_cases hlong : 262144 < n
  · go_enter Try.func4, Try.ntmps4
    go_wp2_with fail
    go_ret
    exact ⟨rfl, Below.refl _ _⟩
  · go_enter Try.func4, Try.ntmps4
    go_wp2_with fail
    refine (lend_any a cap n _ bs w HL.out hr (Nat.le_refl _) (by omega)).mono ?_
    rintro e w' ⟨rfl, rfl⟩
    go_wp2_with fail
    refine (put_int_any (some ⟨w.heap.size, 0, none⟩) n (n + 2) v (cb bs) (w.heap.size + 1) _ (by rw [length_cb, HL.out]) (lent_rd w bs HL.out) (by simp) (cb_one _) (by omega)).mono ?_
    rintro e w' ⟨rfl, rfl⟩
    rw [low_lowB, ← cb_append]
    have hXl : (lowB (IntKind.u64.wrap v) 8).length = 8 := length_lowB _ _
    have hri := fun W => ref_int_any v W
    rw [low_lowB] at hri
    have HRI := Lib.hid hri; clear hri
    generalize lowB (IntKind.u64.wrap v) 8 = X at *
    go_wp2_with fail
    have hg := fun Y => gave_drew w a bs (bs ++ X) hr (cb (bs ++ [165, 90])).toArray Y
    have hbk := back_any a cap n w.heap.size w.heap.size bs _ HL.out (((hr.alloc (Nat.le_refl _) _).alloc (by simp) _).keep (w' := ((w.alloc (.cells (cb (bs ++ [165, 90])).toArray 5)).alloc (.cells (cb (bs ++ X)).toArray 5)).drew) fun _ _ => rfl) (Nat.le_refl _) (by omega) (heap_alloc2_old w _ (.cells (cb (bs ++ X)).toArray 5))
    have HG := Lib.hid hg; clear hg
    have HBK := Lib.hid hbk; clear hbk
    have HXL := Lib.hid hXl; clear hXl
    have hfin := str_cat_same bs X
    have hlen : ¬ 9223372036854775807 < bs.length + X.length := by rw [HL.out, HXL.out]; omega
    generalize World.alloc (World.alloc w _) _ = w2 at *
    go_region_with (first
      | (go_at_call 13
         refine HBK.out.mono ?_
         rintro e w' ⟨rfl, Y, rfl⟩
         obtain ⟨hb3, hz3, hr3, hn3⟩ := HG.out Y
         generalize World.setRow _ _ Y = w3 at *
         have HZ3 := Lib.hid hz3; clear hz3)
      | (go_at_call 17
         refine (lays_any _).mono ?_
         rintro e w4 ⟨rfl, hb4⟩
         have hn4 := hn3.below hb4 (Nat.le_refl _)
         have hr4 := hr3.below hb4 (Nat.le_refl _)
         have hbw4 := hb3.trans (hb4.mono hb3.size)
         have hcv1 := fun c => run_string_of (P := Try.prog) hn4 22 9 5 (n + 8) c (by rw [List.length_append, HL.out, HXL.out]) Try.underlying22 Try.underlying5 Try.underlying9
         have hcv2 := fun c => run_string_of (P := Try.prog) hr4 22 9 5 n c HL.out Try.underlying22 Try.underlying5 Try.underlying9
         clear hn3 hr3 hb3)
      | (go_at_call 18
         refine (HRI.out _).mono ?_
         rintro e w5 ⟨o5, rfl, hown5, hb5⟩
         obtain ⟨a5, cap5, rfl, hr5, _⟩ := Rd.own hown5
         have hbw5 := hbw4.trans (hb5.mono hbw4.size)
         have hcv3 := fun c => run_string_of (P := Try.prog) (hn4.below hb5 hb4.size) 22 9 5 (n + 8) c (by rw [List.length_append, HL.out, HXL.out]) Try.underlying22 Try.underlying5 Try.underlying9
         have hcv4 := fun c => run_string_of (P := Try.prog) (hr4.below hb5 hb4.size) 22 9 5 n c HL.out Try.underlying22 Try.underlying5 Try.underlying9
         have hcv5 := fun c => run_string_of (P := Try.prog) hr5 22 9 5 8 c HXL.out Try.underlying22 Try.underlying5 Try.underlying9
         clear hown5 hn4 hr4 hb4))
    all_goals go_wp2
    all_goals go_ret
    all_goals exact ⟨rfl, hbw5⟩
end Go.Proofs.Ytpmchhjinmjadaa
