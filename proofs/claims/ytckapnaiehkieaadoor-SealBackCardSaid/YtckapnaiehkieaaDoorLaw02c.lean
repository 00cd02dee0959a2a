/-
  Layer 2's statements, walked: what is framed is found again; one byte that is another one.
-/
import Derived.Test.YtckapnaiehkieaaDoorLaw02b
import Derived.Test.YtckapnaiehkieaaDoorSealG
namespace Go.Proofs.YtckapnaiehkieaaDoor
open Go.RowKit

/-- A row of the call's own as a slice, with its capacity. -/
theorem own_slice {w : World} {base : Nat} {e : TypeId} {v : Value} {n : Nat} {xs : List Value} (h : w.ownsRow base e 1 v n xs) : ∃ a cap, v = .slice a n cap ∧ Rd w w.heap.size a xs ∧ n ≤ cap ∧ cap ≤ maxLen := by
  obtain ⟨a, cap, rfl, hr, _⟩ := Rd.own h
  refine ⟨a, cap, rfl, hr, ?_⟩
  rcases h.2 with ⟨e1, rfl⟩ | ⟨g, cap', cur, e1, _, _, h3, h4, _⟩
  · cases e1; exact ⟨Nat.le_refl _, Nat.zero_le _⟩
  · cases e1; exact ⟨h3, h4⟩

set_option maxHeartbeats 1000000 in
theorem walk_back (a : Option Addr) (n cap : Nat) (bs : List UInt8) (a2 : Option Addr) (n2 cap2 : Nat) (cs : List UInt8) (w : World) (hT : Tab w) (hl : bs.length = n) (hr : Rd w w.heap.size a (cb bs)) (hcap : n ≤ cap) (hm : cap ≤ maxLen)
    (hl2 : cs.length = n2) (hr2 : Rd w w.heap.size a2 (cb cs)) (_hcap2 : n2 ≤ cap2) (_hm2 : cap2 ≤ maxLen) :
    Calls Tryd.prog 7 #[.slice a n cap, .slice a2 n2 cap2] w fun e w' => e = .returned (.bool true) ∧ Below w.heap.size w w' := by
  obtain ⟨i0, hi, hz0, hz1, hz2⟩ := info_parts info_byte
  have hnm : n ≤ maxLen := Nat.le_trans hcap hm
  have HNM := Lib.hid hnm
  unfold maxLen at hnm hm
  have HL := Lib.hid hl; clear hl
  have HL2 := Lib.hid hl2; clear hl2
  have HT := Lib.hid hT; clear hT
  by_cases hlong : 2097152 < n
  · go_enter Tryd.func7, Tryd.ntmps7
    go_wp2_with fail
    go_ret
    exact ⟨rfl, Below.refl _ _⟩
  · by_cases hlong2 : 2097152 < n2
    · go_enter Tryd.func7, Tryd.ntmps7
      go_wp2_with fail
      go_ret
      exact ⟨rfl, Below.refl _ _⟩
    · by_cases hbig : 1048576 < n
      · have hd : decide ((1048576 : Int) < (n : Int)) = true := by simpa using (by omega : (1048576 : Int) < (n : Int))
        go_enter Tryd.func7, Tryd.ntmps7
        go_wp2_with fail
        refine (frame_no a n cap _ hbig HNM.out).mono ?_
        rintro e w' ⟨rfl, rfl⟩
        go_wp2_with fail
        refine (frames_any _ HT.out).mono ?_
        rintro e w1 ⟨rfl, hb1⟩
        go_wp2_with fail
        refine (finds_any _ (HT.out.below HT.out.pos hb1)).mono ?_
        rintro e w2 ⟨rfl, hb2⟩
        go_wp2
        go_ret
        exact ⟨rfl, hb1.trans (hb2.mono hb1.size)⟩
      · have hfr := fst_frame (bs := bs) cs (by rw [HL.out]; omega)
        have hfl : (frameB bs ++ cs).length = 8 + n + n2 := by rw [List.length_append, length_frameB, HL.out, HL2.out]
        have HFR := Lib.hid hfr; clear hfr
        have HFL := Lib.hid hfl; clear hfl
        go_enter Tryd.func7, Tryd.ntmps7
        go_wp2_with fail
        refine (frame_ok a n cap bs _ HT.out HL.out hr (by omega)).mono ?_
        rintro e w1 ⟨o1, rfl, hown1, hb1⟩
        obtain ⟨a1, c1, rfl, _⟩ := own_slice hown1
        go_wp2_with (at_builtin; refine wpList_append_rd rfl _ _ 22 rfl w.heap.size 5 i0 (.int .u8 0) 1 Tryd.underlying22 hi hz0 hz1 hz2 rfl _ (8 + n) (cb (frameB bs)) rfl hown1 w.heap.size _ n2 cap2 (cb cs) rfl (hr2.below hb1 (Nat.le_refl _)) ?c1 (cb_one _) ?c2 ?c3 hb1.size ?_)
        case c1 => rw [length_cb, HL2.out]
        case c2 => unfold maxLen; omega
        case c3 => omega
        intro o3 w3 hown3 hg3
        have hb3 := hb1.grown hg3 hb1.size (fun j hj => (hown1.lt j hj).1)
        rw [← cb_append] at hown3
        obtain ⟨a3, c3, rfl, hr3, hc3, hm3⟩ := own_slice hown3
        clear hown3 hown1 hg3
        go_wp2_with fail
        refine (first_any a3 _ c3 _ (frameB bs ++ cs) w3 (HT.out.below HT.out.pos hb3) HFL.out hr3 (Nat.le_refl _) (by omega) hc3 hm3).mono ?_
        rintro e w4 ⟨a4, c4, rfl, hr4, hb4⟩
        rw [HFR.out.1, HFR.out.2.1, HFR.out.2.2, HL.out]
        rw [HFR.out.2.2] at hr4
        have hb34 := hb3.trans (hb4.mono hb3.size)
        have hr4' := hr4.rd (B := w4.heap.size) (fun b h => h.2)
        clear hr4
        go_wp2_with fail
        refine (frames_any _ (HT.out.below HT.out.pos hb34)).mono ?_
        rintro e w5 ⟨rfl, hb5⟩
        have hb35 := hb34.trans (hb5.mono hb34.size)
        go_wp2_with fail
        refine (finds_any _ (HT.out.below HT.out.pos hb35)).mono ?_
        rintro e w6 ⟨rfl, hb6⟩
        have hb36 := hb35.trans (hb6.mono hb35.size)
        have hcv1 := fun c => run_string_of (P := Tryd.prog) ((hr4'.below hb5 (Nat.le_refl _)).below hb6 hb5.size) 22 9 5 n c HL.out Tryd.underlying22 Tryd.underlying5 Tryd.underlying9
        have hcv2 := fun c => run_string_of (P := Tryd.prog) (hr.below hb36 (Nat.le_refl _)) 22 9 5 n c HL.out Tryd.underlying22 Tryd.underlying5 Tryd.underlying9
        go_wp2
        go_ret
        exact ⟨rfl, hb36⟩

set_option maxHeartbeats 1000000 in
theorem walk_byte (a : Option Addr) (n cap : Nat) (bs : List UInt8) (at' by' : Int) (w : World) (hT : Tab w) (hl : bs.length = n) (hr : Rd w w.heap.size a (cb bs))
    (hat : (Lit.int .i64 at').wf = true) (hby : (Lit.int .u8 by').wf = true) :
    Calls Tryd.prog 9 #[.slice a n cap, .int .i64 at', .int .u8 by'] w fun e w' => e = .returned (.bool true) ∧ Below w.heap.size w w' := by
  have hbb := bounds_u8 hby
  have hab := bounds_i64 hat
  have HL := Lib.hid hl; clear hl
  have HT := Lib.hid hT; clear hT
  clear hby hat
  by_cases hlong : 4000 < n
  · go_enter Tryd.func9, Tryd.ntmps9
    go_wp2_with fail
    go_ret
    exact ⟨rfl, Below.refl _ _⟩
  · by_cases h0 : by' = 0
    · subst h0
      go_enter Tryd.func9, Tryd.ntmps9
      go_wp2_with fail
      go_ret
      exact ⟨rfl, Below.refl _ _⟩
    · have h0' : (by' == 0) = false := by simpa using h0
      have hfl : (frameB bs).length = 8 + n := by rw [length_frameB, HL.out]
      have HFL := Lib.hid hfl; clear hfl
      have H0 := Lib.hid h0; clear h0
      by_cases hout : at' < 4 ∨ (8 + n : Int) ≤ at'
      · by_cases h4 : at' < 4
        all_goals
          go_enter Tryd.func9, Tryd.ntmps9
          go_wp2_with fail
          refine (frame_ok a n cap bs _ HT.out HL.out hr (by omega)).mono ?_
          rintro e w1 ⟨o1, rfl, hown1, hb1⟩
          obtain ⟨a1, c1, rfl, _⟩ := own_slice hown1
          have hgt : (8 + n : Int) ≤ at' ∨ at' < 4 := by omega
          go_wp2_with fail
          refine (frames_any _ (HT.out.below HT.out.pos hb1)).mono ?_
          rintro e w2 ⟨rfl, hb2⟩
          go_wp2
          go_ret
          exact ⟨rfl, hb1.trans (hb2.mono hb1.size)⟩
      · obtain ⟨k, rfl⟩ : ∃ k : Nat, at' = (k : Int) := ⟨at'.toNat, by omega⟩
        have hk4 : 4 ≤ k := by omega
        have hk8 : k < 8 + n := by omega
        go_enter Tryd.func9, Tryd.ntmps9
        go_wp2_with fail
        refine (frame_ok a n cap bs _ HT.out HL.out hr (by omega)).mono ?_
        rintro e w1 ⟨o1, rfl, hown1, hb1⟩
        obtain ⟨y, rfl⟩ : ∃ y : Nat, by' = (y : Int) := ⟨by'.toNat, by omega⟩
        rcases hown1.2 with ⟨_, h⟩ | ⟨g, c1, cur, rfl, hg0, hgg, hc1, hc2, hsz, htk⟩
        · omega
        · have hkl : k < (frameB bs).length := by rw [HFL.out]; omega
          have hks : k < cur.size := by omega
          have hcell0 : cur[k]? = some (.int .u8 ((frameB bs)[k].toNat : Int)) := by
            have e1 : (List.take ((8 + n) * 1) cur.toList)[k]? = (cb (frameB bs))[k]? := by rw [htk]
            rw [List.getElem?_take_of_lt (by omega)] at e1
            simpa [cb, hkl, hks] using e1
          have hcell : w1.cell? ⟨g, k, none⟩ = some (.int .u8 ((frameB bs)[k].toNat : Int)) := by rw [cell_of_row w1 g k _ _ _ hgg, hcell0]
          have hfz := frozen_of_row w1 g k _ _ hgg
          have hx8 := (frameB bs)[k].toNat_lt
          have hxor := u8_xor_nat (frameB bs)[k].toNat y (by omega) (by omega)
          have hxl : (frameB bs)[k].toNat ^^^ y < 256 := Nat.xor_lt_two_pow (n := 8) (by omega) (by omega)
          obtain ⟨c, hc⟩ : ∃ c : UInt8, c.toNat = (frameB bs)[k].toNat ^^^ y := ⟨UInt8.ofNat ((frameB bs)[k].toNat ^^^ y), by simp only [UInt8.toNat_ofNat']; omega⟩
          have hne : c ≠ (frameB bs)[k] := by
            intro e
            rw [e] at hc
            have e2 := congrArg (fun z => (frameB bs)[k].toNat ^^^ z) hc
            simp only [← Nat.xor_assoc, Nat.xor_self, Nat.zero_xor] at e2
            exact H0.out (by omega)
          rw [← hc] at hxor
          have hfst := fst_byte (by rw [HL.out]; omega) k c hk4 hkl hne
          have hrow : (w1.setCell ⟨g, k, none⟩ (.int .u8 (c.toNat : Int))).heap[g]? = some (.cells ((cur.toList.set k (.int .u8 (c.toNat : Int)))).toArray 5 (0, 0)) := by
            rw [setCell_eq_setRow w1 g k cur _ _ _ hgg]
            have := setRow_heap w1 g cur (cur.setIfInBounds k (.int .u8 (c.toNat : Int))) _ _ hgg
            rw [this]
            congr 2
            apply Array.ext'
            simp
          have hrd := Rd.row (off := 0) (n := 8 + n) hrow (Nat.lt_succ_self g) (by simp; omega)
          have htk2 : ((cur.toList.set k (.int .u8 (c.toNat : Int))).drop 0).take (8 + n) = cb ((frameB bs).set k c) := by
            rw [List.drop_zero, List.take_set]
            rw [Nat.mul_one] at htk
            rw [htk]
            simp [cb, List.map_set]
          rw [htk2] at hrd
          have hlen : ((frameB bs).set k c).length = 8 + n := by rw [List.length_set, HFL.out]
          have hb2 : Below w.heap.size w (w1.setCell ⟨g, k, none⟩ (.int .u8 (c.toNat : Int))) := hb1.setCell hg0 _
          have hgl : g + 1 ≤ (w1.setCell ⟨g, k, none⟩ (.int .u8 (c.toNat : Int))).heap.size := by
            have := (hown1.lt g rfl).2
            simp; omega
          have HLEN := Lib.hid hlen; clear hlen
          have HFST := Lib.hid hfst; clear hfst
          clear htk2 hrow hcell0 htk hsz hgg hc hne hown1
          generalize ((frameB bs)[k]).toNat = x at *
          generalize (frameB bs).set k c = fb at *
          generalize (c.toNat : Int) = cz at *
          have k0 : (0 : Int) ≤ (k : Int) := by omega
          go_wp2_with fail
          refine (first_any _ (8 + n) c1 _ fb _ (HT.out.below HT.out.pos hb2) HLEN.out hrd hgl (by omega) hc1 hc2).mono ?_
          rintro e w4 ⟨a4, c4, rfl, hr4, hb4⟩
          rw [HFST.out]
          have hb34 := hb2.trans (hb4.mono hb2.size)
          go_wp2_with fail
          refine (frames_any _ (HT.out.below HT.out.pos hb34)).mono ?_
          rintro e w5 ⟨rfl, hb5⟩
          have hb35 := hb34.trans (hb5.mono hb34.size)
          go_wp2_with fail
          refine (finds_any _ (HT.out.below HT.out.pos hb35)).mono ?_
          rintro e w6 ⟨rfl, hb6⟩
          go_wp2
          go_ret
          exact ⟨rfl, hb35.trans (hb6.mono hb35.size)⟩
end Go.Proofs.YtckapnaiehkieaaDoor
