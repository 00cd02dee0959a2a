/-
  The law's own helper of layer 7: large. 'no' says that no row of it is longer than 3000.
-/
import Derived.Test.YtkghkioghkapcaaObjK
namespace Go.Proofs.Ytkghkioghkapcaa
open Go.RowKit Go.Sort

def LargePost (o : Objs) (e : Ending) : Prop := ∃ b : Bool, e = .returned (.bool b) ∧ (b = false → smallO 3000 o)

set_option maxRecDepth 100000 in
set_option maxHeartbeats 16000000 in
theorem law07_large_any (B : Nat) (o : Objs) (vs vt : Value) (w : World) (ho : objP w (· < B) [vs, vt] o) (hsm : smallO (2 ^ 48) o) (hB : B ≤ w.heap.size) :
    Calls Try.prog 14 #[.agg #[vs, vt]] w fun e w' => LargePost o e ∧ Gr w w' := by
  obtain ⟨_, _, hv, hss, hts⟩ := ho
  simp only [List.cons.injEq, and_true] at hv
  obtain ⟨rfl, rfl⟩ := hv
  obtain ⟨sa, sc, rfl, hsc, hsm'⟩ := hss.form
  obtain ⟨ta, tc, rfl, htc, htm⟩ := hts.form
  obtain ⟨sn, hsn⟩ : ∃ sn, o.schemas.length = sn := ⟨_, rfl⟩
  obtain ⟨tn, htn⟩ : ∃ tn, o.tables.length = tn := ⟨_, rfl⟩
  rw [hsn] at hss hsc
  rw [htn] at hts htc
  rw [hsn, htn]
  unfold maxLen at htm hsm'
  obtain ⟨hs48, ht48, hT⟩ := hsm
  rw [hsn] at hs48
  rw [htn] at ht48
  have HT := Lib.hid hT
  have HSN := Lib.hid hsn
  have hw0 : wrap64 ((sn : Int) + (tn : Int)) = (sn : Int) + (tn : Int) := IntWalk.wrap64_in _ (by omega)
  have HTN := Lib.hid htn
  have HTS := Lib.hid hts
  have hbx := box_at2 w (.slice sa sn sc) (.slice ta tn tc) 26
  have hg1 := Gr.alloc w (.cells #[.slice sa sn sc, .slice ta tn tc] 26)
  have hl1 : (w.alloc (.cells #[.slice sa sn sc, .slice ta tn tc] 26)).heap.size = w.heap.size + 1 := by simp
  have z0 := hbx 0 _ rfl
  have z1 := hbx 1 _ rfl
  have HG := Lib.hid hg1
  clear hss hts hsn htn hbx hg1 hT
  go_enter Try.func14, Try.ntmps14
  go_wp2_with fail
  generalize hw1 : World.alloc w _ = w1 at *
  clear hw1
  have hw1 := HG.out
  go_loopw [3, 4] (fun n i wr => ∃ (k : Nat) (z : Int), k ≤ tn ∧ n = .int .i64 z ∧ i = .int .i64 k ∧ Hid (0 ≤ z ∧ z < 2 ^ 60 ∧ (z ≤ 3000 → sn ≤ 3000 ∧ tn ≤ 3000 ∧ ∀ j (h : j < o.tables.length), j < k → smallT 3000 o.tables[j])) ∧ Gr w1 wr) (fun _ i _ => tn - (intOf i).toNat)
  case atStart => exact ⟨0, (sn : Int) + tn, Nat.zero_le _, rfl, rfl, Lib.hid ⟨by omega, by omega, fun h => ⟨by omega, by omega, fun _ _ h => by omega⟩⟩, Gr.refl _⟩
  case round =>
    obtain ⟨k, z, hk, rfl, rfl, HZ, hgr⟩ := hrel
    obtain ⟨hz0, hz1, hzz⟩ := HZ.out
    replace hzz := Lib.hid hzz
    have hwr := hw1.trans hgr
    have x1 := cell_on hgr.below z1
    have hl2 : w.heap.size < wr.heap.size := by have := hgr.below.size; omega
    by_cases hlt : k < tn
    · by_cases hz : z ≤ 3000
      · have lk : k < o.tables.length := by rw [HTN.out]; exact hlt
        obtain ⟨b, q, x, rfl, hbB, hx, hxl⟩ := HTS.out.at lk
        have hbl : b < w.heap.size := Nat.lt_of_lt_of_le hbB hB
        have k0 : (0 : Int) ≤ (k : Int) := by omega
        have k1 : (k : Int) < (tn : Int) := by omega
        have HKN := Lib.hid (show k + 1 ≤ tn by omega)
        have hT48 := HT.out k lk
        obtain ⟨hs3', ht3', hsj⟩ := hzz.out hz
        have hstep : smallT 3000 o.tables[k] → ∀ j (h : j < o.tables.length), j < k + 1 → smallT 3000 o.tables[j] := fun h j hj hjk => by
          by_cases e : j = k
          · subst e; exact h
          · exact hsj j hj (by omega)
        have HST := Lib.hid hstep
        clear hstep hsj
        generalize o.tables[k] = U at *
        obtain ⟨vc, vr, rfl, hvc, hvr⟩ := hx
        obtain ⟨p1, p2, rfl, hp1, hp2⟩ := hvc.form
        obtain ⟨p3, p4, rfl, hp3, hp4⟩ := hvr.form
        obtain ⟨yn, hyn⟩ : ∃ n, U.rules.length = n := ⟨_, rfl⟩
        rw [hyn] at hvr hp3 hxl
        have HYN := Lib.hid hyn
        obtain ⟨hx48, hy48, hR48⟩ := hT48
        have HR48 := Lib.hid hR48
        clear hR48
        obtain ⟨xn, hxn⟩ : ∃ n, U.cols.length = n := ⟨_, rfl⟩
        rw [hxn] at hvc hp1 hx48 hxl
        rw [hyn] at hy48
        have HXN := Lib.hid hxn
        clear hxn
        have hA : wrap64 (z + (xn : Int)) = z + (xn : Int) := IntWalk.wrap64_in _ (by omega)
        have hAB : wrap64 (z + (xn : Int) + (yn : Int)) = z + (xn : Int) + (yn : Int) := IntWalk.wrap64_in _ (by omega)
        unfold maxLen at hp2 hp4
        have HR := Lib.hid hvr
        have c0 : wr.cell? ⟨b, q + k * 5, none⟩ = _ := (hwr.below.cell (p := ⟨b, q + k * 5 + 0, none⟩) hbl).trans (hxl 0 _ rfl)
        have c1 := (hwr.below.cell (p := ⟨b, q + k * 5 + 1, none⟩) hbl).trans (hxl 1 _ rfl)
        have c2 := (hwr.below.cell (p := ⟨b, q + k * 5 + 2, none⟩) hbl).trans (hxl 2 _ rfl)
        have c3 := (hwr.below.cell (p := ⟨b, q + k * 5 + 3, none⟩) hbl).trans (hxl 3 _ rfl)
        have c4 := (hwr.below.cell (p := ⟨b, q + k * 5 + 4, none⟩) hbl).trans (hxl 4 _ rfl)
        have hg3 := Gr.alloc wr (.cells #[.string U.schema, .string U.name, .string U.owner, .slice p1 xn p2, .slice p3 yn p4] 35)
        have hb3 := box_five wr (.string U.schema) (.string U.name) (.string U.owner) (.slice p1 xn p2) (.slice p3 yn p4) 35
        have m3 := hb3 3 _ rfl
        have m4 := hb3 4 _ rfl
        have hs3 : (wr.alloc (.cells #[.string U.schema, .string U.name, .string U.owner, .slice p1 xn p2, .slice p3 yn p4] 35)).heap.size = wr.heap.size + 1 := by simp
        have HWB := Lib.hid (hwr.trans hg3); have HGB := Lib.hid (hgr.trans hg3)
        clear hxl hb3 hg3 hvc hvr hyn
        go_wp2_with fail
        generalize hwB' : World.alloc wr _ = wB at *
        clear hwB' c0 c1 c2 c3 c4 x1 hgr hwr hl2 m3
        generalize wr.heap.size = p0 at *
        go_loopw [3, 6] (fun n i wx => ∃ (m : Nat) (y : Int), m ≤ yn ∧ n = .int .i64 y ∧ i = .int .i64 m ∧ Hid (z + xn + yn ≤ y ∧ y < 2 ^ 60 ∧ (y ≤ 3000 → ∀ j (h : j < U.rules.length), j < m → U.rules[j].cols.length ≤ 3000)) ∧ Gr wB wx) (fun _ i _ => yn - (intOf i).toNat)
        case atStart => exact ⟨0, z + xn + yn, Nat.zero_le _, rfl, rfl, Lib.hid ⟨Int.le_refl _, by omega, fun _ _ _ h => by omega⟩, Gr.refl _⟩
        case round =>
          obtain ⟨m, y, hm, rfl, rfl, HY, hgx⟩ := hrel
          obtain ⟨hy0, hy1, hyy⟩ := HY.out
          replace hyy := Lib.hid hyy
          have hwx := HWB.out.trans hgx
          have m4' := cell_on hgx.below m4
          by_cases hmt : m < yn
          · by_cases hy : y ≤ 3000
            · have lm : m < U.rules.length := by rw [HYN.out]; exact hmt
              obtain ⟨rb, rq, rx, rfl, hrB, hrx, hrl⟩ := HR.out.at lm
              have hrw : rb < w.heap.size := Nat.lt_of_lt_of_le hrB hB
              have j0 : (0 : Int) ≤ (m : Int) := by omega
              have j1 : (m : Int) < (yn : Int) := by omega
              have HMN := Lib.hid (show m + 1 ≤ yn by omega)
              obtain ⟨rv, rfl, hrv⟩ := hrx
              obtain ⟨va, vp, rfl, hv1, hv2⟩ := hrv.form
              have hv48 := HR48.out m lm
              have hyj := hyy.out hy
              have hst2 : U.rules[m].cols.length ≤ 3000 → ∀ j (h : j < U.rules.length), j < m + 1 → U.rules[j].cols.length ≤ 3000 := fun h j hj hjk => by
                by_cases e : j = m
                · subst e; exact h
                · exact hyj j hj (by omega)
              generalize U.rules[m] = R at *
              generalize R.cols.length = vn at *
              have HS2 := Lib.hid hst2
              clear hst2 hyj
              have hC : wrap64 (y + (vn : Int)) = y + (vn : Int) := IntWalk.wrap64_in _ (by omega)
              have HN := Lib.hid (show z + xn + yn ≤ y + vn ∧ y + vn < 2 ^ 60 ∧ (y + vn ≤ 3000 → ∀ j (h : j < U.rules.length), j < m + 1 → U.rules[j].cols.length ≤ 3000) from ⟨by omega, by omega, fun h => HS2.out (by omega)⟩)
              unfold maxLen at hv2
              have d2 := (hwx.below.cell (p := ⟨rb, rq + m * 8 + 2, none⟩) hrw).trans (hrl 2 _ rfl)
              clear hrl hrv
              go_wp2_with fail
              go_roundw
              case rel => exact ⟨m + 1, y + vn, HMN.out, rfl, by go_num, HN, hgx⟩
              case measure => have := HMN.out; simp [intOf]; omega
            · have HN := Lib.hid (show 0 ≤ y ∧ y < 2 ^ 60 ∧ (y ≤ 3000 → sn ≤ 3000 ∧ tn ≤ 3000 ∧ ∀ j (h : j < o.tables.length), j < k + 1 → smallT 3000 o.tables[j]) from ⟨by omega, hy1, fun h => absurd h hy⟩)
              go_wp2_with fail
              go_roundw
              case rel => exact ⟨k + 1, y, HKN.out, rfl, by go_num, HN, HGB.out.trans hgx⟩
              case measure => have := HKN.out; simp [intOf]; omega
          · have HN := Lib.hid (show 0 ≤ y ∧ y < 2 ^ 60 ∧ (y ≤ 3000 → sn ≤ 3000 ∧ tn ≤ 3000 ∧ ∀ j (h : j < o.tables.length), j < k + 1 → smallT 3000 o.tables[j]) from ⟨by omega, hy1, fun h => ⟨hs3', ht3', HST.out ⟨by rw [HXN.out]; omega, by rw [HYN.out]; omega, fun j hj => hyy.out h j hj (by rw [HYN.out] at hj; omega)⟩⟩⟩)
            go_wp2_with fail
            go_roundw
            case rel => exact ⟨k + 1, y, HKN.out, rfl, by go_num, HN, HGB.out.trans hgx⟩
            case measure => have := HKN.out; simp [intOf]; omega
      · have hz' : 3000 < z := by omega
        go_wp2_with fail
        go_ret
        exact ⟨⟨true, rfl, fun h => Bool.noConfusion h⟩, hwr⟩
    · by_cases hz : z ≤ 3000
      · have HF := Lib.hid (show smallO 3000 o from ⟨by rw [HSN.out]; exact (hzz.out hz).1, by rw [HTN.out]; exact (hzz.out hz).2.1, fun j hj => (hzz.out hz).2.2 j hj (by rw [HTN.out] at hj; omega)⟩)
        have hz' : ¬ 3000 < z := by omega
        go_wp2_with fail
        go_ret
        exact ⟨⟨false, rfl, fun _ => HF.out⟩, hwr⟩
      · have hz' : 3000 < z := by omega
        go_wp2_with fail
        go_ret
        exact ⟨⟨true, rfl, fun h => Bool.noConfusion h⟩, hwr⟩
end Go.Proofs.Ytkghkioghkapcaa
