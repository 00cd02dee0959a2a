/-
  Layer 7's law: ObjectsChecks.
-/
import Derived.Test.YtkghkioghkapcaaLaw07b
import Derived.Test.YtkghkioghkapcaaQuietB
import Derived.Test.YtkghkioghkapcaaObjH
namespace Go.Proofs.Ytkghkioghkapcaa
open Go.RowKit Go.Sort Go.Shelf

set_option maxRecDepth 100000 in
set_option maxHeartbeats 4000000 in
theorem walk_checks (o : Objs) (vs vt : Value) (w : World) (ho : objP w (· < w.heap.size) [vs, vt] o) (hsm : smallO (2 ^ 48) o) :
    Calls Try.prog 4 #[.agg #[vs, vt]] w fun e w' => e = .returned (.bool true) ∧ Below w.heap.size w w' := by
  have mixed := mixed_ok
  have HO := Lib.hid ho
  obtain ⟨_, _, hv, hss, hts⟩ := ho
  simp only [List.cons.injEq, and_true] at hv
  obtain ⟨rfl, rfl⟩ := hv
  obtain ⟨ta, tc, rfl, htc, htm⟩ := hts.form
  obtain ⟨sa, sc, rfl, hsc, hsm2⟩ := hss.form
  have hal := (Gr.alloc w (.cells #[.slice sa o.schemas.length sc, .slice ta o.tables.length tc] 26)).below
  have HROW := Lib.hid (heap_alloc_new w (.cells #[.slice sa o.schemas.length sc, .slice ta o.tables.length tc] 26))
  have HAL := Lib.hid hal
  have hp : w.heap.size < (w.alloc (.cells #[.slice sa o.schemas.length sc, .slice ta o.tables.length tc] 26)).heap.size := by simp
  clear hal hss hts hsc htc hsm2 htm
  go_enter Try.func4, Try.ntmps4
  go_wp2_with fail
  generalize hw1 : World.alloc w _ = w1 at *
  clear hw1
  have HK1 := Lib.hid (Keeps.of_below HAL.out fun j hj => hj : Keeps (· < w.heap.size) w w1)
  refine (law07_large_any w.heap.size o _ _ w1 (obj_keep HO.out (fun _ h => h) HK1.out) hsm (Nat.le_of_lt hp)).mono ?_
  rintro e w2 ⟨⟨b, rfl, hb⟩, hg2⟩
  have HB2 := Lib.hid (HAL.out.trans (hg2.below.mono HAL.out.size))
  cases b with
  | true =>
    go_wp2_with fail
    go_ret
    exact ⟨rfl, HB2.out⟩
  | false =>
    have HSM := Lib.hid (hb rfl)
    have HR2 := Lib.hid ((hg2.below.block _ hp).trans HROW.out)
    have c0 : w2.cell? ⟨w.heap.size, 0, none⟩ = some (.slice sa o.schemas.length sc) := box_at HR2.out 0 rfl
    have c1 : w2.cell? ⟨w.heap.size, 1, none⟩ = some (.slice ta o.tables.length tc) := box_at HR2.out 1 rfl
    have d0 := fun p => cell_belowS c0 p
    have d1 := fun p => cell_belowS c1 p
    have HBW := Lib.hid (fun (W : World) (h : CkS w2 W) => HB2.out.trans (Below.mono h HB2.out.size))
    have HOW := Lib.hid (fun (W : World) (h : CkS w2 W) => obj_keep HO.out (fun _ h => h) (Keeps.of_below (HBW.out W h) fun j hj => hj))
    have HCH := Lib.hid (fun (W : World) (_ : CkS w2 W) => law07_checks_any W)
    have HCK := Lib.hid (fun (W : World) (h : CkS w2 W) => prog_check_any w.heap.size o _ _ W (HOW.out W h) (HBW.out W h).size HSM.out)
    have HRI := Lib.hid (fun (W : World) (h : CkS w2 W) => (ref_right_any w.heap.size o _ _ W (HOW.out W h) (HBW.out W h).size).mono (R' := fun e w' => e = .returned (.bool (rightB o)) ∧ Below W.heap.size W w') fun _ _ ⟨h1, h2⟩ => ⟨h1, h2.below⟩)
    clear hb hg2
    cases hr : rightB o with
    | true =>
      rw [okE_yes hr] at HCK
      rw [hr] at HRI
      clear hr
      go_wp2_with fail
      refine wp_region_quiet_below mixed (by kernel_rfl) ?_
      repeat (go_big_quiet_step (first
        | (go_at_call 15; exact below_call HCH.out)
        | (go_at_call 16; exact below_call HCK.out)
        | (go_at_call 17; exact below_call HRI.out)))
      refine Go.wpQuiet_nil ?_
      intro w9 hw'
      obtain ⟨⟨w8, h8⟩, hw''⟩ := hw'
      subst hw''
      have HF := Lib.hid (HBW.out _ h8)
      go_wp2_with fail
      go_ret
      exact ⟨rfl, HF.out⟩
    | false =>
      rw [okE_no hr] at HCK
      rw [hr] at HRI
      clear hr
      go_wp2_with fail
      refine wp_region_quiet_below mixed (by kernel_rfl) ?_
      repeat (go_big_quiet_step (first
        | (go_at_call 15; exact below_call HCH.out)
        | (go_at_call 16; exact below_call HCK.out)
        | (go_at_call 17; exact below_call HRI.out)))
      refine Go.wpQuiet_nil ?_
      intro w9 hw'
      obtain ⟨⟨w8, h8⟩, hw''⟩ := hw'
      subst hw''
      have HF := Lib.hid (HBW.out _ h8)
      go_wp2_with fail
      go_ret
      exact ⟨rfl, HF.out⟩
end Go.Proofs.Ytkghkioghkapcaa
