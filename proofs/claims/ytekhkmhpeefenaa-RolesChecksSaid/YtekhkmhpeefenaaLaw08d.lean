/-
  Layer 8's law: RolesChecks.
-/
import Derived.Test.YtekhkmhpeefenaaLaw08c
namespace Go.Proofs.Ytekhkmhpeefenaa
set_option linter.unusedVariables false
open Go.RowKit Go.Sort Go.Shelf

set_option maxRecDepth 100000 in
set_option maxHeartbeats 4000000 in
theorem walk_rchecks (r : Rols) (vn vm : Value) (w : World) (h : rolP w (· < w.heap.size) [vn, vm] r) (hsh : shortR r) :
    Calls Try.prog 3 #[.agg #[vn, vm]] w fun e w' => e = .returned (.bool true) ∧ Below w.heap.size w w' := by
  have hO := OpenR.start h (Nat.le_refl _)
  obtain ⟨na, nn, nc, ma, mn, mc, rfl, rfl, hnn, hmn, _, _, _, _, hn, hm⟩ := rol_form h
  have HL := Lib.hid (fun W (ho : OpenR w w.heap.size (.slice na nn nc) (.slice ma mn mc) r W) => law08_large_any w.heap.size r _ _ W ho.rol)
  have HO := Lib.hid hO
  have x0 := hO.c0
  have x1 := hO.c1
  clear h hn hm hO hnn hmn
  go_enter Try.func3, Try.ntmps3
  go_wp2_with fail
  generalize World.alloc w _ = w0 at *
  refine (HL.out _ HO.out).mono ?_
  rintro e w1 ⟨rfl, g1⟩
  have HO1 := Lib.hid (HO.out.on g1.below)
  clear g1 x0 x1 HO
  have x0 := HO1.out.c0
  have x1 := HO1.out.c1
  cases hlg : largeR r with
  | true =>
    go_wp2_with fail
    go_ret
    exact ⟨rfl, HO1.out.below⟩
  | false =>
    have HC := Lib.hid (prog_rcheck_any w.heap.size _ _ r w1 HO1.out.rol HO1.out.base (largeR_no hlg) hsh)
    clear hlg hsh
    go_wp2_with fail
    refine HC.out.mono ?_
    rintro e w2 ⟨rfl, g2⟩
    have HO2 := Lib.hid (HO1.out.on g2)
    clear g2 x0 x1
    have hok : okR r = if rightR r then 0 else 1 := rfl
    have HCK := Lib.hid (law08_checks_any w2)
    cases h1 : rightR r with
    | false =>
      rw [h1] at hok
      rw [hok]
      clear hok
      go_wp2_with fail
      refine HCK.out.mono ?_
      rintro e w3 ⟨rfl, g3⟩
      have HO3 := Lib.hid (HO2.out.on g3)
      have x0 := HO3.out.c0
      have x1 := HO3.out.c1
      have HR := Lib.hid (ref_rright_any w.heap.size r _ _ w3 HO3.out.rol HO3.out.base)
      rw [h1] at HR
      clear g3
      go_wp2_with fail
      refine HR.out.mono ?_
      rintro e w4 ⟨rfl, g4⟩
      have HO4 := Lib.hid (HO3.out.on g4)
      clear g4 x0 x1
      go_wp2_with fail
      go_ret
      exact ⟨rfl, HO4.out.below⟩
    | true =>
      rw [h1] at hok
      rw [hok]
      clear hok
      go_wp2_with fail
      refine HCK.out.mono ?_
      rintro e w3 ⟨rfl, g3⟩
      have HO3 := Lib.hid (HO2.out.on g3)
      have x0 := HO3.out.c0
      have x1 := HO3.out.c1
      have HR := Lib.hid (ref_rright_any w.heap.size r _ _ w3 HO3.out.rol HO3.out.base)
      rw [h1] at HR
      clear g3
      go_wp2_with fail
      refine HR.out.mono ?_
      rintro e w4 ⟨rfl, g4⟩
      have HO4 := Lib.hid (HO3.out.on g4)
      clear g4 x0 x1
      go_wp2_with fail
      go_ret
      exact ⟨rfl, HO4.out.below⟩
end Go.Proofs.Ytekhkmhpeefenaa
