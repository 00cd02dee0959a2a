/-
  The statement on bytes that are a catalog: the walk over bytes that are one (made by wip/gen_wire.py)
-/
import Derived.Test.YtbhpbiimfcdgaaaGreatWireLaw4
import Derived.Test.YtbhpbiimfcdgaaaGreatWireCw
import Derived.Test.YtbhpbiimfcdgaaaGreatWireLw
import Derived.Test.YtbhpbiimfcdgaaaGreatWireG2
namespace Go.Proofs.YtbhpbiimfcdgaaaGreat
open Go.RowKit
set_option linter.unusedVariables false

set_option maxRecDepth 100000 in
set_option maxHeartbeats 2000000 in
theorem walk_Catalogb_yes (us : List Tok) (a : Option Addr) (n cap : Nat) (bs : List UInt8) (w : World) (hl : bs.length = n) (hr : Rd w w.heap.size a (cb bs)) (hc : n ≤ cap) (hm : cap ≤ maxLen) (hP : parse shCatalog bs = some (us, [])) :
    Calls Tryz.prog 3 #[.slice a n cap] w fun e w' => e = .returned (.bool true) ∧ Below w.heap.size w w' := by
  have hmx := hm
  have HPP := Lib.hid hP; clear hP
  unfold maxLen at hmx
  have HL := Lib.hid hl; clear hl
  by_cases hlong : 262144 < n
  · go_enter Tryz.func3, Tryz.ntmps3
    go_wp2_with fail
    go_ret
    exact ⟨rfl, Below.refl _ _⟩
  have hi : (Tryz.prog.info? 34).map (·.size) = some 7 := by kernel_rfl
  have HI := Lib.hid hi; clear hi
  have h1z : (#[.int .i64 0, .int .i64 0, .slice none 0 0, .slice none 0 0, .slice none 0 0, .slice none 0 0, .slice none 0 0] : Array Value).all (·.oneCell') = true := by kernel_rfl
  have H1Z := Lib.hid h1z; clear h1z
  have snil : ∀ w : World, (convert 22 9 (.slice none 0 0)).run Tryz.prog w = .ok (.string ⟨#[]⟩) w := fun w => run_string_of (B := 0) (bs := []) (.inl rfl) 22 9 5 0 0 rfl Tryz.underlying22 Tryz.underlying5 Tryz.underlying9
  clear snil
  have hlent : Rd (w.alloc (.cells (cb (bs ++ [165, 90])).toArray 5)) (w.alloc (.cells (cb (bs ++ [165, 90])).toArray 5)).heap.size (some ⟨w.heap.size, 0, none⟩) (cb bs) := by
    have h := Rd.row (off := 0) (n := n) (heap_alloc_new w (.cells (cb (bs ++ [165, 90])).toArray 5)) (show w.heap.size < (w.alloc (.cells (cb (bs ++ [165, 90])).toArray 5)).heap.size by simp) (by rw [length_cb, List.length_append, HL.out]; omega)
    have e : (cb (bs ++ [165, 90])).take n = cb bs := by rw [cb_append, List.take_left' (by rw [length_cb, HL.out])]
    rw [List.drop_zero, e] at h
    exact h
  go_enter Tryz.func3, Tryz.ntmps3
  go_wp2_with fail
  refine (lend_any a cap n w.heap.size bs w HL.out hr (Nat.le_refl _) (by omega)).mono ?_
  rintro e w1 ⟨rfl, rfl⟩
  go_wp2_with fail
  refine (Get_Catalog _ n (n + 2) bs _ HL.out hlent (by omega) (by unfold maxLen; omega)).mono ?_
  rintro e w2 ⟨hb2, ⟨ts, cs, P, rfl, I⟩ | ⟨P, rfl⟩⟩
  case inr => exact absurd HPP.out (P _)
  obtain ⟨pb, pf, _⟩ := parse_some shCatalog bs ts [] P
  rw [List.append_nil] at pb
  have hsz : cs.length = 7 := I.size
  have HS2 : Hid ((#[.int .i64 0, .int .i64 0, .slice none 0 0, .slice none 0 0, .slice none 0 0, .slice none 0 0, .slice none 0 0] : Array Value).size = cs.toArray.size) := Lib.hid (show (7 : Nat) = cs.toArray.size by rw [List.size_toArray, hsz])
  have HI2 : Hid ((Tryz.prog.info? 34).map (·.size) = some cs.toArray.size) := Lib.hid (by rw [HI.out, List.size_toArray, hsz])
  have HIC : Hid ((Tryz.prog.info? 34).map (·.size) = some cs.length) := Lib.hid (by rw [HI.out, hsz])
  have h1 := Lib.hid (all_oneCell_toArray I.oneCell)
  have PP := Lib.hid P; clear P
  have PB := Lib.hid pb; clear pb
  have PF := Lib.hid pf; clear pf
  clear hsz
  have hY := Lib.hid (heap_alloc_new w2 (.cells cs.toArray 34))
  have B3 : Below (w.heap.size + 1) (w.alloc (.cells (cb (bs ++ [165, 90])).toArray 5)) (w2.alloc (.cells cs.toArray 34)) := by
    have e : (w.alloc (.cells (cb (bs ++ [165, 90])).toArray 5)).heap.size = w.heap.size + 1 := by simp
    have := hb2.alloc hb2.size (.cells cs.toArray 34)
    rw [e] at this; exact this
  go_wp2_with (refine wpList_store_last w2 rfl 34 _ _ rfl 34 #[.int .i64 0, .int .i64 0, .slice none 0 0, .slice none 0 0, .slice none 0 0, .slice none 0 0, .slice none 0 0] cs.toArray w2.heap.size rfl rfl rfl HI2.out HS2.out h1.out ?_)
  refine (back_any a cap n w.heap.size w.heap.size bs _ HL.out ((hr.below ((Below.refl _ _).alloc (Nat.le_refl _) _) (Nat.le_refl _)).below B3 (by omega)) (Nat.le_refl _) (by omega) (lent_at3 B3)).mono ?_
  rintro e w4' ⟨rfl, Yv, rfl⟩
  have B4 : Below w.heap.size w ((w2.alloc (.cells cs.toArray 34)).setRow w.heap.size Yv) :=
    below_setRow (((Below.refl _ _).alloc (Nat.le_refl _) _).trans (B3.mono (by omega))) _
  have hz2 : w.heap.size + 1 ≤ w2.heap.size := by have := hb2.size; simpa using this
  have hY4 := Lib.hid ((setRow_other (w2.alloc (.cells cs.toArray 34)) w.heap.size w2.heap.size Yv (by omega)).trans hY.out)
  have K24 : Keeps (fun k => w.heap.size + 1 ≤ k) w2 ((w2.alloc (.cells cs.toArray 34)).setRow w.heap.size Yv) := (Keeps.refl.alloc _).trans (setRow_keeps _ _ _)
  have hz4 : w2.heap.size < ((w2.alloc (.cells cs.toArray 34)).setRow w.heap.size Yv).heap.size := by simp
  generalize hw4 : (w2.alloc (.cells cs.toArray 34)).setRow w.heap.size Yv = w4 at *
  have HW4 := Lib.hid hw4; clear hw4
  have hr4 : Rd w4 w4.heap.size a (cb bs) := (hr.below B4 (Nat.le_refl _)).more B4.size
  go_wp2_with fail
  refine (RefGet_Catalog a n cap bs w4 HL.out hr4 hc hm).mono ?_
  rintro e w5 ⟨hb5, ⟨_, zs, JZ, rfl⟩ | ⟨Pn, rfl⟩⟩
  case inr => exact absurd PP.out (Pn _)
  have hzs : zs.length = 7 := JZ.size
  have HS5 : Hid ((#[.int .i64 0, .int .i64 0, .slice none 0 0, .slice none 0 0, .slice none 0 0, .slice none 0 0, .slice none 0 0] : Array Value).size = zs.toArray.size) := Lib.hid (show (7 : Nat) = zs.toArray.size by rw [List.size_toArray, hzs])
  have HI5 : Hid ((Tryz.prog.info? 34).map (·.size) = some zs.toArray.size) := Lib.hid (by rw [HI.out, List.size_toArray, hzs])
  have h15 := Lib.hid (all_oneCell_toArray JZ.one)
  clear hzs JZ
  have hY6 := Lib.hid ((Below.heap_alloc w5 (.cells zs.toArray 34) w2.heap.size (Nat.lt_of_lt_of_le hz4 hb5.size)).trans ((hb5.block _ hz4).trans hY4.out))
  have rng6 := Lib.hid (box_range hY6.out)
  have e1 : (w.alloc (.cells (cb (bs ++ [165, 90])).toArray 5)).heap.size = w.heap.size + 1 := by simp
  have I6 : Is (w5.alloc (.cells zs.toArray 34)) (· < (w5.alloc (.cells zs.toArray 34)).heap.size) shCatalog cs ts :=
    I.keep (fun k hk => by have := hk.2; have := hb5.size; simp; omega) ((K24.mono fun k hk => by have := hk.1; rw [e1] at this; exact this).trans (((Keeps.of_below hb5 fun k hk => by have := hk.2; omega)).alloc _))
  clear e1
  go_wp2_with (first | (refine wpList_store_last w5 rfl 34 _ _ rfl 34 #[.int .i64 0, .int .i64 0, .slice none 0 0, .slice none 0 0, .slice none 0 0, .slice none 0 0, .slice none 0 0] zs.toArray w5.heap.size rfl rfl rfl HI5.out HS5.out h15.out ?_) | (refine wpList_load_mid rfl 34 _ rfl w2.heap.size 0 rfl _ _ rng6.out Tryz.underlying34 rfl HIC.out ?_))
  refine (RefPut_Catalog cs ts _ I6 (room_bytes (by rw [PB.out, HL.out]; omega))).mono ?_
  rintro e w7 ⟨hb7, ⟨F7, v7, rfl, o7⟩ | ⟨F7, rfl⟩⟩
  case inr => exact absurd PF.out F7
  rw [PB.out, HL.out] at o7
  obtain ⟨a7, c7, rfl, r7, l7⟩ := Rd.own o7
  clear o7 l7 F7
  have hr6 : Rd (w5.alloc (.cells zs.toArray 34)) w.heap.size a (cb bs) := ((hr.below B4 (Nat.le_refl _)).below hb5 B4.size).below ((Below.refl w5.heap.size w5).alloc (Nat.le_refl _) _) (Nat.le_trans B4.size hb5.size)
  go_wp2_with fail
  refine (awake_any w7).mono ?_
  rintro e w8 ⟨rfl, hb8⟩
  have hle6 : w.heap.size ≤ (w5.alloc (.cells zs.toArray 34)).heap.size := by have := B4.size; have := hb5.size; simp; omega
  have q7 := r7.below hb8 (Nat.le_refl _)
  have q0 := (hr6.below hb7 hle6).below hb8 (Nat.le_trans hle6 hb7.size)
  have s7 := run_string_of (P := Tryz.prog) q7 22 9 5 n c7 HL.out Tryz.underlying22 Tryz.underlying5 Tryz.underlying9
  have s0 := run_string_of (P := Tryz.prog) q0 22 9 5 n cap HL.out Tryz.underlying22 Tryz.underlying5 Tryz.underlying9
  clear q7 q0
  have BX : Below (w5.alloc (.cells zs.toArray 34)).heap.size (w5.alloc (.cells zs.toArray 34)) w8 := hb7.trans (hb8.mono hb7.size)
  go_wp2_with fail
  go_ret
  exact ⟨rfl, ((B4.trans (hb5.mono B4.size)).trans ((Below.refl w5.heap.size w5).alloc (Nat.le_refl _) (.cells zs.toArray 34) |>.mono (Nat.le_trans B4.size hb5.size))).trans (BX.mono (Nat.le_trans (Nat.le_trans B4.size hb5.size) (by simp)))⟩

end Go.Proofs.YtbhpbiimfcdgaaaGreat
