/-
  The document's answer for layer 7, by contract: names.
-/
import Derived.Test.YtkghkioghkapcaaObjJ
import Derived.Test.YtkghkioghkapcaaObjT
namespace Go.Proofs.Ytkghkioghkapcaa
open Go.RowKit Go.Sort

theorem namesB_at {t : Tab} {s n k : ByteArray} {i : Nat} (h : i < t.rules.length) (e : namedB s n k t.rules[i] = true) : namesB t s n k = true := by
  unfold namesB
  rw [List.any_eq_true]
  exact ⟨_, List.getElem_mem h, e⟩
theorem namesB_none {t : Tab} {s n k : ByteArray} (h : ∀ i (hi : i < t.rules.length), namedB s n k t.rules[i] = false) : namesB t s n k = false := by
  unfold namesB
  rw [List.any_eq_false]
  intro x hx
  obtain ⟨i, hi, rfl⟩ := List.mem_iff_getElem.1 hx
  simp [h i hi]

set_option maxRecDepth 100000 in
set_option maxHeartbeats 16000000 in
theorem ref_names_any (B : Nat) (A : Tab) (s nm ky : ByteArray) (vc vr : Value) (w : World) (hr : Lst w (· < B) (rulP w (· < B)) 8 vr A.rules) (hB : B ≤ w.heap.size) :
    Calls Try.prog 80 #[.agg #[.string A.schema, .string A.name, .string A.owner, vc, vr], .string s, .string nm, .string ky] w fun e w' => e = .returned (.bool (namesB A s nm ky)) ∧ Gr w w' := by
  obtain ⟨ra, rc, rfl, hrc, hrm⟩ := hr.form
  obtain ⟨rn, hrn⟩ : ∃ n, A.rules.length = n := ⟨_, rfl⟩
  rw [hrn] at hr hrc
  rw [hrn]
  unfold maxLen at hrm
  have HRN := Lib.hid hrn
  have HR := Lib.hid hr
  have HAT := Lib.hid (fun i => namesB_at (t := A) (s := s) (n := nm) (k := ky) (i := i))
  have HNO := Lib.hid (namesB_none (t := A) (s := s) (n := nm) (k := ky))
  have hg1 := Gr.alloc w (.cells #[.string A.schema, .string A.name, .string A.owner, vc, .slice ra rn rc] 35)
  have hb1 := box_five w (.string A.schema) (.string A.name) (.string A.owner) vc (.slice ra rn rc) 35
  have hs1 : (w.alloc (.cells #[.string A.schema, .string A.name, .string A.owner, vc, .slice ra rn rc] 35)).heap.size = w.heap.size + 1 := by simp
  have x4 := hb1 4 _ rfl
  have HG := Lib.hid hg1
  clear hb1 hg1 hr hrn
  go_enter Try.func80, Try.ntmps80
  go_wp2_with fail
  generalize hw2 : World.alloc w _ = w2 at *
  clear hw2
  have hw2 := HG.out
  go_loopw [9] (fun i wr => ∃ k : Nat, k ≤ rn ∧ i = .int .i64 k ∧ Hid (∀ j (h : j < A.rules.length), j < k → namedB s nm ky A.rules[j] = false) ∧ Gr w2 wr) (fun i _ => rn - (intOf i).toNat)
  case atStart => exact ⟨0, Nat.zero_le _, rfl, Lib.hid (fun _ _ h => by omega), Gr.refl _⟩
  case round =>
    obtain ⟨k, hk, rfl, hn, hgr⟩ := hrel
    have hwr := hw2.trans hgr
    have x4' := cell_on hgr.below x4
    have hl0 : w.heap.size < wr.heap.size := by have := hgr.below.size; omega
    by_cases hlt : k < rn
    · have lk : k < A.rules.length := by rw [HRN.out]; exact hlt
      obtain ⟨b, q, x, rfl, hbB, hx, hxl⟩ := HR.out.at lk
      have hbl : b < w.heap.size := Nat.lt_of_lt_of_le hbB hB
      have hyes := HAT.out k lk
      have hst : namedB s nm ky A.rules[k] = false → ∀ j (h : j < A.rules.length), j < k + 1 → namedB s nm ky A.rules[j] = false := fun h j hj hjk => by
        by_cases e : j = k
        · subst e; exact h
        · exact hn.out j hj (by omega)
      generalize A.rules[k] = U at *
      obtain ⟨rv, rfl, hrv⟩ := hx
      obtain ⟨va, vp, rfl, hv1, hv2⟩ := hrv.form
      generalize U.cols.length = vn at *
      obtain ⟨u0, u1, u2', u3, u4', u5, u6, u7⟩ := U
      simp only at *
      have k0 : (0 : Int) ≤ (k : Int) := by omega
      have k1 : (k : Int) < (rn : Int) := by omega
      have HKN := Lib.hid (show k + 1 ≤ rn by omega)
      have c0 : wr.cell? ⟨b, q + k * 8, none⟩ = _ := (hwr.below.cell (p := ⟨b, q + k * 8 + 0, none⟩) hbl).trans (hxl 0 _ rfl)
      have c1 := (hwr.below.cell (p := ⟨b, q + k * 8 + 1, none⟩) hbl).trans (hxl 1 _ rfl)
      have c2 := (hwr.below.cell (p := ⟨b, q + k * 8 + 2, none⟩) hbl).trans (hxl 2 _ rfl)
      have c3 := (hwr.below.cell (p := ⟨b, q + k * 8 + 3, none⟩) hbl).trans (hxl 3 _ rfl)
      have c4 := (hwr.below.cell (p := ⟨b, q + k * 8 + 4, none⟩) hbl).trans (hxl 4 _ rfl)
      have c5 := (hwr.below.cell (p := ⟨b, q + k * 8 + 5, none⟩) hbl).trans (hxl 5 _ rfl)
      have c6 := (hwr.below.cell (p := ⟨b, q + k * 8 + 6, none⟩) hbl).trans (hxl 6 _ rfl)
      have c7 := (hwr.below.cell (p := ⟨b, q + k * 8 + 7, none⟩) hbl).trans (hxl 7 _ rfl)
      have hg3 := Gr.alloc wr (.cells #[.string u0, .int .i64 u1, .slice va vn vp, .int .i64 u3, .int .i64 u4', .string u5, .string u6, .string u7] 56)
      have hb3 := box_rule wr (.string u0) (.int .i64 u1) (.slice va vn vp) (.int .i64 u3) (.int .i64 u4') (.string u5) (.string u6) (.string u7) 56
      have m1 := hb3 1 _ rfl
      have m5 := hb3 5 _ rfl
      have m6 := hb3 6 _ rfl
      have m7 := hb3 7 _ rfl
      have HWB := Lib.hid (hwr.trans hg3); have HGB := Lib.hid (hgr.trans hg3)
      have hv3 : vp ≤ 2 ^ 63 - 1 := hv2
      clear hxl hb3 hg3 hrv hn hv2
      by_cases r1 : u1 = 4
      · by_cases r5 : u5 = s
        · by_cases r6 : u6 = nm
          · by_cases re : ky.toList = []
            · have HF := Lib.hid (hyes (by simp [namedB, r1, r5, r6, re]))
              clear hyes hst
              subst r1 r5 r6
              go_wp2_with fail
              go_ret
              exact ⟨by rw [HF.out]; rfl, HWB.out⟩
            · have rex : (ky.toList == []) = false := by simpa using re
              by_cases r7 : u7 = ky
              · have HF := Lib.hid (hyes (by simp [namedB, r1, r5, r6, r7]))
                clear hyes hst
                subst r1 r5 r6 r7
                go_wp2_with fail
                go_ret
                exact ⟨by rw [HF.out]; rfl, HWB.out⟩
              · have HS := Lib.hid (hst (by simp [namedB, r7, re]))
                have r7x := tl_ne r7
                clear hyes hst
                subst r1 r5 r6
                go_wp2_with fail
                go_roundw
                case rel => exact ⟨k + 1, HKN.out, by go_num, HS, HGB.out⟩
                case measure => have := HKN.out; simp [intOf]; omega
          · have HS := Lib.hid (hst (by simp [namedB, r6]))
            have r6x := tl_ne r6
            clear hyes hst
            subst r1 r5
            go_wp2_with fail
            go_roundw
            case rel => exact ⟨k + 1, HKN.out, by go_num, HS, HGB.out⟩
            case measure => have := HKN.out; simp [intOf]; omega
        · have HS := Lib.hid (hst (by simp [namedB, r5]))
          have r5x := tl_ne r5
          clear hyes hst
          subst r1
          go_wp2_with fail
          go_roundw
          case rel => exact ⟨k + 1, HKN.out, by go_num, HS, HGB.out⟩
          case measure => have := HKN.out; simp [intOf]; omega
      · have HS := Lib.hid (hst (by simp [namedB, r1]))
        have r1x : (u1 == 4) = false := by simpa using r1
        clear hyes hst
        go_wp2_with fail
        go_roundw
        case rel => exact ⟨k + 1, HKN.out, by go_num, HS, HGB.out⟩
        case measure => have := HKN.out; simp [intOf]; omega
    · have HF := Lib.hid (HNO.out (fun j hj => hn.out j hj (by have := HRN.out; omega)))
      go_wp2_with fail
      go_ret
      exact ⟨by rw [HF.out]; rfl, hwr⟩
end Go.Proofs.Ytkghkioghkapcaa
