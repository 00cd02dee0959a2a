/-
  Layer 8, the document's answer, by contract: Right.
-/
import Derived.Test.YtekhkmhpeefenaaRolH
import Derived.Deep.RegionLaw
namespace Go.Proofs.Ytekhkmhpeefenaa
set_option linter.unusedVariables false
open Go.RowKit Go.Sort Go.Shelf

theorem rightR_no1 {r : Rols} (h : ¬ r.names.length ≤ 16) : rightR r = false := by unfold rightR; rw [decide_eq_false h]; rfl
theorem rightR_no2 {r : Rols} (h : ¬ r.mems.length ≤ 256) : rightR r = false := by unfold rightR; rw [decide_eq_false h]; simp
theorem rightR_no3 {r : Rols} (h : rowsR r = false) : rightR r = false := by unfold rightR; rw [h]; simp
theorem rightR_no4 {r : Rols} {k : Nat} (hk : k < r.mems.length) (h : inB (reachL r r.mems[k].of) r.mems[k].role = true) : rightR r = false := by
  unfold rightR
  have : noRing r = false := by
    unfold noRing
    exact List.all_eq_false.2 ⟨_, List.getElem_mem hk, by rw [h]; simp⟩
  rw [this]; simp
theorem rightR_yes {r : Rols} (h1 : r.names.length ≤ 16) (h2 : r.mems.length ≤ 256) (h3 : rowsR r = true) (h : ∀ k (hk : k < r.mems.length), inB (reachL r r.mems[k].of) r.mems[k].role = false) : rightR r = true := by
  unfold rightR
  rw [decide_eq_true h1, decide_eq_true h2, h3]
  unfold noRing
  rw [List.all_eq_true.2 fun m hm => by obtain ⟨k, hk, rfl⟩ := List.mem_iff_getElem.1 hm; rw [h k hk]; rfl]
  rfl
theorem OpenR.drewN {w W : World} {B : Nat} {vn vm : Value} {r : Rols} (h : OpenR w B vn vm r W) (n : Nat) : OpenR w B vn vm r (W.drewN n) :=
  h.on (below_drawn (Below.refl _ _) n)

set_option maxRecDepth 100000 in
set_option maxHeartbeats 16000000 in
theorem ref_rright_any (B : Nat) (r : Rols) (vn vm : Value) (w : World) (h : rolP w (· < B) [vn, vm] r) (hB : B ≤ w.heap.size) :
    Calls Try.prog 12 #[.agg #[vn, vm]] w fun e w' => e = .returned (.bool (rightR r)) ∧ Below w.heap.size w w' := by
  have hO := OpenR.start h hB
  obtain ⟨na, nn, nc, ma, mn, mc, rfl, rfl, hnn, hmn, hnc, hmc, hnc2, hmc2, hn, hm⟩ := rol_form h
  have HO := Lib.hid hO
  have x0 := hO.c0
  have x1 := hO.c1
  have HR := Lib.hid (fun W (ho : OpenR w B (.slice na nn nc) (.slice ma mn mc) r W) => ref_rrows_any B r _ _ W ho.rol ho.base)
  have HMN := Lib.hid hmn
  by_cases h16 : nn ≤ 16
  · have i16 : ¬ (16 : Int) < (nn : Int) := by omega
    by_cases h256 : mn ≤ 256
    · have i256 : ¬ (256 : Int) < (mn : Int) := by omega
      have HRE := Lib.hid (fun x W (ho : OpenR w B (.slice na nn nc) (.slice ma mn mc) r W) => ref_reach_any B _ _ r x W ho.rol ho.base ⟨by omega, by omega⟩)
      have HY := Lib.hid (fun h3 h => rightR_yes (r := r) (by omega) (by omega) h3 h)
      have HNO := Lib.hid (fun k hk h => rightR_no4 (r := r) (k := k) hk h)
      have HIN := Lib.hid (fun (W : World) (l : List ByteArray) (v : Value) (x : ByteArray) (B' : Nat) (h : OwnX strQ W B' 9 1 v l) => by
        obtain ⟨a, cap, hv, _, _, hl⟩ := h.str
        exact (by rw [hv]; exact ref_in_any a l.length cap W.heap.size l x W hl : Calls Try.prog 37 #[v, .string x] W fun e w' => e = .returned (.bool (inB l x)) ∧ W = w'))
      clear h hn hm hO hnn hmn hB
      go_enter Try.func12, Try.ntmps12
      go_wp2_with fail
      generalize World.alloc w _ = w0 at *
      refine (HR.out _ HO.out).mono ?_
      rintro e w1 ⟨rfl, g1⟩
      have HO1 := Lib.hid (HO.out.on g1.below)
      clear g1 x0 x1
      cases h3 : rowsR r with
      | false =>
        have HF := Lib.hid (rightR_no3 h3)
        go_wp2_with fail
        go_ret
        exact ⟨by rw [HF.out]; rfl, HO1.out.below⟩
      | true =>
        have HY2 := Lib.hid (HY.out h3)
        clear HY
        go_wp2_with fail
        go_loopw [3] (fun i wr => ∃ k : Nat, k ≤ mn ∧ i = .int .i64 k ∧ Hid ((∀ j (hj : j < r.mems.length), j < k → inB (reachL r r.mems[j].of) r.mems[j].role = false) ∧ OpenR w B (.slice na nn nc) (.slice ma mn mc) r wr)) (fun i _ => mn - (intOf i).toNat)
        case atStart => exact ⟨0, Nat.zero_le _, rfl, Lib.hid ⟨fun _ _ h => by omega, HO1.out⟩⟩
        case round =>
          obtain ⟨k, hk, rfl, hrel⟩ := hrel
          obtain ⟨hn, ho⟩ := hrel.out
          have x0 := ho.c0
          have x1 := ho.c1
          by_cases hlt : k < mn
          · have lk : k < r.mems.length := by rw [HMN.out]; exact hlt
            obtain ⟨_, _, _, _, _, _, _, _, _, _, _, _, _, _, _, hm2⟩ := rol_form ho.rol
            obtain ⟨b, q, x, rfl, hbB, hx, hxl⟩ := hm2.at lk
            have k0 : (0 : Int) ≤ (k : Int) := by omega
            have k1 : (k : Int) < (mn : Int) := by omega
            have hno := HNO.out k lk
            have hst : inB (reachL r r.mems[k].of) r.mems[k].role = false → ∀ j (hj : j < r.mems.length), j < k + 1 → inB (reachL r r.mems[j].of) r.mems[j].role = false := fun h j hj hjk => by
              by_cases e : j = k
              · subst e; exact h
              · exact hn j hj (by omega)
            have HKN := Lib.hid (show k + 1 ≤ mn by omega)
            generalize hsk : r.mems[k] = sk at *
            clear hsk
            obtain ⟨yr, yo⟩ := sk
            simp only at *
            obtain rfl : x = [.string yr, .string yo] := hx
            have c0 : wr.cell? ⟨b, q + k * 2, none⟩ = _ := hxl 0 _ rfl
            have c1 := hxl 1 _ rfl
            have hod := ho.drewN 1
            have HC := Lib.hid (HRE.out yo wr.drew hod)
            have HOD := Lib.hid hod
            have hbl := World.block_lt_of_cell? wr _ c1
            have HC0 := Lib.hid c0
            clear hxl hm2 hn ho hod hrel
            cases hq : inB (reachL r yo) yr with
            | false =>
              have HS := Lib.hid (hst hq)
              have HQ := Lib.hid hq
              clear hst hno hq
              go_wp2_with fail
              go_region_law (first
                | (go_simp
                   refine HC.out.mono ?_
                   rintro e w2 ⟨v, rfl, hv, hb⟩
                   have HO2 := Lib.hid (HOD.out.on hb)
                   have d1 := HO2.out.c1
                   have d0 := (hb.cell (p := ⟨b, q + k * 2, none⟩) hbl).trans HC0.out
                   have hi := HIN.out _ _ _ yr _ hv
                   rw [HQ.out] at hi
                   have HI := Lib.hid hi
                   clear hv hb hi)
                | (go_simp
                   refine HI.out.mono ?_
                   rintro e w3 ⟨rfl, rfl⟩))
              all_goals
                go_wp2_with fail
                go_roundw
                case rel => exact ⟨k + 1, HKN.out, by go_num, Lib.hid ⟨HS.out, HO2.out⟩⟩
                case measure => have := HKN.out; simp [intOf]; omega
            | true =>
              have HF := Lib.hid (hno hq)
              have HQ := Lib.hid hq
              clear hst hno hq
              go_wp2_with fail
              go_region_law (first
                | (go_simp
                   refine HC.out.mono ?_
                   rintro e w2 ⟨v, rfl, hv, hb⟩
                   have HO2 := Lib.hid (HOD.out.on hb)
                   have d1 := HO2.out.c1
                   have d0 := (hb.cell (p := ⟨b, q + k * 2, none⟩) hbl).trans HC0.out
                   have hi := HIN.out _ _ _ yr _ hv
                   rw [HQ.out] at hi
                   have HI := Lib.hid hi
                   clear hv hb hi)
                | (go_simp
                   refine HI.out.mono ?_
                   rintro e w3 ⟨rfl, rfl⟩))
              all_goals
                go_wp2_with fail
                go_ret
                exact ⟨by rw [HF.out]; rfl, HO2.out.below⟩
          · have HF := Lib.hid (And.intro (HY2.out fun j hj => hn j hj (by have := HMN.out; omega)) ho.below)
            clear hn ho hrel
            go_wp2_with fail
            go_ret
            exact ⟨by rw [HF.out.1]; rfl, HF.out.2⟩
    · have i256 : (256 : Int) < (mn : Int) := by omega
      have HF := Lib.hid (And.intro (rightR_no2 (r := r) (by omega)) hO.below)
      clear h hn hm hO hnn hmn hB
      go_enter Try.func12, Try.ntmps12
      go_wp2_with fail
      go_ret
      exact ⟨by rw [HF.out.1]; rfl, HF.out.2⟩
  · have i16 : (16 : Int) < (nn : Int) := by omega
    have HF := Lib.hid (And.intro (rightR_no1 (r := r) (by omega)) hO.below)
    clear h hn hm hO hnn hmn hB
    go_enter Try.func12, Try.ntmps12
    go_wp2_with fail
    go_ret
    exact ⟨by rw [HF.out.1]; rfl, HF.out.2⟩
end Go.Proofs.Ytekhkmhpeefenaa
