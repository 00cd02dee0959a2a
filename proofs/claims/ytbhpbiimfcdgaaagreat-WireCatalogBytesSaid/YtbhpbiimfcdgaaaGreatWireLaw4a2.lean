/-
  The statement on bytes that are a catalog: the walk over bytes that are none (made by wip/gen_wire.py)
-/
import Derived.Test.YtbhpbiimfcdgaaaGreatWireLaw4
import Derived.Test.YtbhpbiimfcdgaaaGreatWireCw
import Derived.Test.YtbhpbiimfcdgaaaGreatWireLw
import Derived.Test.YtbhpbiimfcdgaaaGreatWireG2
namespace Go.Proofs.YtbhpbiimfcdgaaaGreat
open Go.RowKit
set_option linter.unusedVariables false

set_option maxRecDepth 100000 in
set_option maxHeartbeats 2000000 in
theorem walk_Catalogb_no (a : Option Addr) (n cap : Nat) (bs : List UInt8) (w : World) (hl : bs.length = n) (hr : Rd w w.heap.size a (cb bs)) (hc : n ≤ cap) (hm : cap ≤ maxLen) (hP : ∀ ts, parse shCatalog bs ≠ some (ts, [])) :
    Calls Tryz.prog 3 #[.slice a n cap] w fun e w' => e = .returned (.bool true) ∧ Below w.heap.size w w' := by
  have hmx := hm
  have HPP := Lib.hid hP; clear hP
  unfold maxLen at hmx
  have HL := Lib.hid hl; clear hl
  by_cases hlong : 262144 < n
  · go_enter Tryz.func3, Tryz.ntmps3
    go_wp2_with fail
    go_ret
    exact ⟨rfl, Below.refl _ _⟩
  have hi : (Tryz.prog.info? 34).map (·.size) = some 7 := by kernel_rfl
  have HI := Lib.hid hi; clear hi
  have h1z : (#[.int .i64 0, .int .i64 0, .slice none 0 0, .slice none 0 0, .slice none 0 0, .slice none 0 0, .slice none 0 0] : Array Value).all (·.oneCell') = true := by kernel_rfl
  have H1Z := Lib.hid h1z; clear h1z
  have snil : ∀ w : World, (convert 22 9 (.slice none 0 0)).run Tryz.prog w = .ok (.string ⟨#[]⟩) w := fun w => run_string_of (B := 0) (bs := []) (.inl rfl) 22 9 5 0 0 rfl Tryz.underlying22 Tryz.underlying5 Tryz.underlying9
  clear snil
  have hlent : Rd (w.alloc (.cells (cb (bs ++ [165, 90])).toArray 5)) (w.alloc (.cells (cb (bs ++ [165, 90])).toArray 5)).heap.size (some ⟨w.heap.size, 0, none⟩) (cb bs) := by
    have h := Rd.row (off := 0) (n := n) (heap_alloc_new w (.cells (cb (bs ++ [165, 90])).toArray 5)) (show w.heap.size < (w.alloc (.cells (cb (bs ++ [165, 90])).toArray 5)).heap.size by simp) (by rw [length_cb, List.length_append, HL.out]; omega)
    have e : (cb (bs ++ [165, 90])).take n = cb bs := by rw [cb_append, List.take_left' (by rw [length_cb, HL.out])]
    rw [List.drop_zero, e] at h
    exact h
  obtain ⟨zc, zl, z1, zt, IZ, IC, FZ, RZ, HG, HR⟩ : ∃ (zc : List Value), Hid (zc.length = 7) ∧ Hid (zc.toArray.all (·.oneCell') = true) ∧ ∃ zt, Hid (∀ (w : World) (S : Nat → Prop), Is w S shCatalog [.int .i64 0, .int .i64 0, .slice none 0 0, .slice none 0 0, .slice none 0 0, .slice none 0 0, .slice none 0 0] zt) ∧ Hid (∀ (w : World) (S : Nat → Prop), Is w S shCatalog zc zt) ∧ Hid (firstF zt = 0) ∧ Room [] zt ∧
      Hid (∀ (w : World) (sh : Sh) (bs : List UInt8), GetPost w #[.int .i64 0, .int .i64 0, .slice none 0 0, .slice none 0 0, .slice none 0 0, .slice none 0 0, .slice none 0 0] sh bs = GetPost w zc.toArray sh bs) ∧ Hid (∀ (w : World) (sh : Sh) (bs : List UInt8), RGetPost w #[.int .i64 0, .int .i64 0, .slice none 0 0, .slice none 0 0, .slice none 0 0, .slice none 0 0, .slice none 0 0] sh bs = RGetPost w zc.toArray sh bs) :=
    ⟨[.int .i64 0, .int .i64 0, .slice none 0 0, .slice none 0 0, .slice none 0 0, .slice none 0 0, .slice none 0 0], Lib.hid rfl, Lib.hid H1Z.out, zeroT shCatalog, Lib.hid fun w S => is_zero w S shCatalog, Lib.hid fun w S => is_zero w S shCatalog, Lib.hid (zero_fault shCatalog), (room_small (of_decide_eq_true (by kernel_rfl))), Lib.hid fun _ _ _ => rfl, Lib.hid fun _ _ _ => rfl⟩
  go_enter Tryz.func3, Tryz.ntmps3
  go_wp2_with fail
  refine (lend_any a cap n w.heap.size bs w HL.out hr (Nat.le_refl _) (by omega)).mono ?_
  rintro e w1 ⟨rfl, rfl⟩
  go_wp2_with fail
  refine (Get_Catalog _ n (n + 2) bs _ HL.out hlent (by omega) (by unfold maxLen; omega)).mono ?_
  rw [HG.out]
  rintro e w2 ⟨hb2, ⟨ts, cs, P, rfl, I⟩ | ⟨P, rfl⟩⟩
  case inl => exact absurd P (HPP.out _)
  have HS2 : Hid ((#[.int .i64 0, .int .i64 0, .slice none 0 0, .slice none 0 0, .slice none 0 0, .slice none 0 0, .slice none 0 0] : Array Value).size = zc.toArray.size) := Lib.hid (show (7 : Nat) = zc.toArray.size by rw [List.size_toArray, zl.out])
  have HI2 : Hid ((Tryz.prog.info? 34).map (·.size) = some zc.toArray.size) := Lib.hid (by rw [HI.out, List.size_toArray, zl.out])
  have HIC : Hid ((Tryz.prog.info? 34).map (·.size) = some zc.length) := Lib.hid (by rw [HI.out, zl.out])
  have h1 : Hid (zc.toArray.all (·.oneCell') = true) := Lib.hid z1.out
  have PP := Lib.hid P; clear P
  have hY := Lib.hid (heap_alloc_new w2 (.cells zc.toArray 34))
  have B3 : Below (w.heap.size + 1) (w.alloc (.cells (cb (bs ++ [165, 90])).toArray 5)) (w2.alloc (.cells zc.toArray 34)) := by
    have e : (w.alloc (.cells (cb (bs ++ [165, 90])).toArray 5)).heap.size = w.heap.size + 1 := by simp
    have := hb2.alloc hb2.size (.cells zc.toArray 34)
    rw [e] at this; exact this
  go_wp2_with (refine wpList_store_last w2 rfl 34 _ _ rfl 34 #[.int .i64 0, .int .i64 0, .slice none 0 0, .slice none 0 0, .slice none 0 0, .slice none 0 0, .slice none 0 0] zc.toArray w2.heap.size rfl rfl rfl HI2.out HS2.out h1.out ?_)
  refine (back_any a cap n w.heap.size w.heap.size bs _ HL.out ((hr.below ((Below.refl _ _).alloc (Nat.le_refl _) _) (Nat.le_refl _)).below B3 (by omega)) (Nat.le_refl _) (by omega) (lent_at3 B3)).mono ?_
  rintro e w4' ⟨rfl, Yv, rfl⟩
  have B4 : Below w.heap.size w ((w2.alloc (.cells zc.toArray 34)).setRow w.heap.size Yv) :=
    below_setRow (((Below.refl _ _).alloc (Nat.le_refl _) _).trans (B3.mono (by omega))) _
  have hz2 : w.heap.size + 1 ≤ w2.heap.size := by have := hb2.size; simpa using this
  have hY4 := Lib.hid ((setRow_other (w2.alloc (.cells zc.toArray 34)) w.heap.size w2.heap.size Yv (by omega)).trans hY.out)
  have K24 : Keeps (fun k => w.heap.size + 1 ≤ k) w2 ((w2.alloc (.cells zc.toArray 34)).setRow w.heap.size Yv) := (Keeps.refl.alloc _).trans (setRow_keeps _ _ _)
  have hz4 : w2.heap.size < ((w2.alloc (.cells zc.toArray 34)).setRow w.heap.size Yv).heap.size := by simp
  generalize hw4 : (w2.alloc (.cells zc.toArray 34)).setRow w.heap.size Yv = w4 at *
  have HW4 := Lib.hid hw4; clear hw4
  have hr4 : Rd w4 w4.heap.size a (cb bs) := (hr.below B4 (Nat.le_refl _)).more B4.size
  go_wp2_with fail
  refine (RefGet_Catalog a n cap bs w4 HL.out hr4 hc hm).mono ?_
  rw [HR.out]
  rintro e w5 ⟨hb5, ⟨⟨us, hu⟩, zs, JZ, rfl⟩ | ⟨Pn, rfl⟩⟩
  case inl => exact absurd hu (PP.out us)
  clear Pn
  have hY6 := Lib.hid ((Below.heap_alloc w5 (.cells zc.toArray 34) w2.heap.size (Nat.lt_of_lt_of_le hz4 hb5.size)).trans ((hb5.block _ hz4).trans hY4.out))
  have rng6 := Lib.hid (box_range (cs := zc) hY6.out)
  have I6 : Is (w5.alloc (.cells zc.toArray 34)) (· < (w5.alloc (.cells zc.toArray 34)).heap.size) shCatalog zc zt := IC.out _ _
  go_wp2_with (first | (refine wpList_store_last w5 rfl 34 _ _ rfl 34 #[.int .i64 0, .int .i64 0, .slice none 0 0, .slice none 0 0, .slice none 0 0, .slice none 0 0, .slice none 0 0] zc.toArray w5.heap.size rfl rfl rfl HI2.out HS2.out h1.out ?_) | (refine wpList_load_mid rfl 34 _ rfl w2.heap.size 0 rfl _ _ rng6.out Tryz.underlying34 rfl HIC.out ?_))
  refine (RefPut_Catalog zc zt _ I6 RZ).mono ?_
  rintro e w7 ⟨hb7, ⟨F7, v7, rfl, o7⟩ | ⟨F7, rfl⟩⟩
  case inr => exact absurd FZ.out F7
  obtain ⟨a7, c7, rfl, r7, l7⟩ := Rd.own o7
  clear o7 l7 F7
  have I7 : Is w7 (· < w7.heap.size) shCatalog [.int .i64 0, .int .i64 0, .slice none 0 0, .slice none 0 0, .slice none 0 0, .slice none 0 0, .slice none 0 0] zt := IZ.out _ _
  go_wp2_with fail
  refine (RefPut_Catalog [.int .i64 0, .int .i64 0, .slice none 0 0, .slice none 0 0, .slice none 0 0, .slice none 0 0, .slice none 0 0] zt w7 I7 RZ).mono ?_
  rintro e w8 ⟨hb8, ⟨F8, v8, rfl, o8⟩ | ⟨F8, rfl⟩⟩
  case inr => exact absurd FZ.out F8
  obtain ⟨a8, c8, rfl, r8, l8⟩ := Rd.own o8
  clear o8 l8 F8
  generalize hzb : bytesL zt = zb at *
  have HZB := Lib.hid hzb; clear hzb
  generalize hzn : zb.length = zn at *
  have HZN := Lib.hid hzn; clear hzn
  go_wp2_with fail
  refine (awake_any w8).mono ?_
  rintro e w9 ⟨rfl, hb9⟩
  have q7 := (r7.below hb8 (Nat.le_refl _)).below hb9 hb8.size
  have q8 := r8.below hb9 (Nat.le_refl _)
  have s7 := run_string_of (P := Tryz.prog) q7 22 9 5 zn c7 HZN.out Tryz.underlying22 Tryz.underlying5 Tryz.underlying9
  have s8 := run_string_of (P := Tryz.prog) q8 22 9 5 zn c8 HZN.out Tryz.underlying22 Tryz.underlying5 Tryz.underlying9
  clear q7 q8
  have BX : Below (w5.alloc (.cells zc.toArray 34)).heap.size (w5.alloc (.cells zc.toArray 34)) w9 := (hb7.trans (hb8.mono hb7.size)).trans (hb9.mono (Nat.le_trans hb7.size hb8.size))
  go_wp2_with fail
  go_ret
  exact ⟨rfl, ((B4.trans (hb5.mono B4.size)).trans ((Below.refl w5.heap.size w5).alloc (Nat.le_refl _) (.cells zc.toArray 34) |>.mono (Nat.le_trans B4.size hb5.size))).trans (BX.mono (Nat.le_trans (Nat.le_trans B4.size hb5.size) (by simp)))⟩


end Go.Proofs.YtbhpbiimfcdgaaaGreat
