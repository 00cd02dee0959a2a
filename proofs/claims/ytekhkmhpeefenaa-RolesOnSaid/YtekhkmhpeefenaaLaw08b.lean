/-
  Layer 8's law: RolesOn. (Made by wip/gen_on.py.)
-/
import Derived.Test.YtekhkmhpeefenaaLaw08a
namespace Go.Proofs.Ytekhkmhpeefenaa
set_option linter.unusedVariables false
open Go.RowKit Go.Sort Go.Shelf

set_option maxRecDepth 100000 in
set_option maxHeartbeats 16000000 in
theorem walk_on (r : Rols) (vn vm : Value) (a b c : ByteArray) (w : World) (h : rolP w (· < w.heap.size) [vn, vm] r) (hsh : shortR r) (ha : a.size ≤ maxLen) (hb : b.size ≤ maxLen) (hc : c.size ≤ maxLen) :
    Calls Try.prog 7 #[.agg #[vn, vm], .string a, .string b, .string c] w fun e w' => e = .returned (.bool true) ∧ Below w.heap.size w w' := by
  have hO := OpenR.start h (Nat.le_refl _)
  obtain ⟨na, nn, nc, ma, mn, mc, rfl, rfl, hnn, hmn, _, _, _, _, hn, hm⟩ := rol_form h
  have HL := Lib.hid (fun W (ho : OpenR w w.heap.size (.slice na nn nc) (.slice ma mn mc) r W) => law08_large_any w.heap.size r _ _ W ho.rol)
  have HO := Lib.hid hO
  have x0 := hO.c0
  have x1 := hO.c1
  clear h hn hm hO hnn hmn
  go_enter Try.func7, Try.ntmps7
  go_wp2_with fail
  generalize World.alloc w _ = w0 at *
  refine (HL.out _ HO.out).mono ?_
  rintro e w1 ⟨rfl, g1⟩
  have HO1 := Lib.hid (HO.out.on g1.below)
  clear g1 x0 x1 HO
  cases hlg : largeR r with
  | true =>
    go_wp2_with fail
    go_ret
    exact ⟨rfl, HO1.out.below⟩
  | false =>
    have HI := Lib.hid (fun W (ho : OpenR w w.heap.size (.slice na nn nc) (.slice ma mn mc) r W) x y (hx : x.size ≤ maxLen) (hy : y.size ≤ maxLen) => prog_ris_any w.heap.size _ _ r x y W ho.rol ho.base (largeR_no hlg) hsh hx hy)
    have HT := Lib.hid (isR_trans (r := r) (a := a) (b := b) (c := c))
    have HA := Lib.hid (isR_anti (r := r) (a := a) (b := b))
    have HSZ := Lib.hid (And.intro ha (And.intro hb hc))
    have HQ := Lib.hid law08_is_any
    have HE := Lib.hid (@eqT_no a b)
    clear hsh ha hb hc hlg
    cases hp : isR r a b with
    | false =>
      have HP := Lib.hid hp
      clear hp
      have x0 := HO1.out.c0
      have x1 := HO1.out.c1
      go_wp2_with fail
      refine (HI.out _ HO1.out a b HSZ.out.1 HSZ.out.2.1).mono ?_
      rintro e w2 ⟨rfl, g⟩
      have HO2 := Lib.hid (HO1.out.on g)
      clear g x0 x1 HO1
      rw [HP.out]
      go_wp2_with fail
      refine (HQ.out _).mono ?_
      rintro e w3 ⟨rfl, g⟩
      have HO3 := Lib.hid (HO2.out.on g)
      clear g HO2
      cases he : eqT a b with
      | true =>
        have e1 : (a.toList == b.toList) = true := he
        clear he
        go_wp2_with fail
        go_ret
        exact ⟨rfl, HO3.out.below⟩
      | false =>
        have HU := Lib.hid (HA.out (HE.out.1 he))
        have e1 : (a.toList == b.toList) = false := he
        clear he
        have x0 := HO3.out.c0
        have x1 := HO3.out.c1
        go_wp2_with fail
        refine (HI.out _ HO3.out a b HSZ.out.1 HSZ.out.2.1).mono ?_
        rintro e w4 ⟨rfl, g⟩
        have HO4 := Lib.hid (HO3.out.on g)
        clear g x0 x1 HO3
        rw [HP.out]
        go_wp2_with fail
        go_ret
        exact ⟨rfl, HO4.out.below⟩
    | true =>
      have HP := Lib.hid hp
      clear hp
      cases hq : isR r b c with
      | false =>
        have HR := Lib.hid hq
        clear hq
        have x0 := HO1.out.c0
        have x1 := HO1.out.c1
        go_wp2_with fail
        refine (HI.out _ HO1.out a b HSZ.out.1 HSZ.out.2.1).mono ?_
        rintro e w2 ⟨rfl, g⟩
        have HO2 := Lib.hid (HO1.out.on g)
        clear g x0 x1 HO1
        rw [HP.out]
        have x0 := HO2.out.c0
        have x1 := HO2.out.c1
        go_wp2_with fail
        refine (HI.out _ HO2.out b c HSZ.out.2.1 HSZ.out.2.2).mono ?_
        rintro e w3 ⟨rfl, g⟩
        have HO3 := Lib.hid (HO2.out.on g)
        clear g x0 x1 HO2
        rw [HR.out]
        go_wp2_with fail
        refine (HQ.out _).mono ?_
        rintro e w4 ⟨rfl, g⟩
        have HO4 := Lib.hid (HO3.out.on g)
        clear g HO3
        cases he : eqT a b with
        | true =>
          have e1 : (a.toList == b.toList) = true := he
          clear he
          go_wp2_with fail
          go_ret
          exact ⟨rfl, HO4.out.below⟩
        | false =>
          have HU := Lib.hid (HA.out (HE.out.1 he))
          have e1 : (a.toList == b.toList) = false := he
          clear he
          have x0 := HO4.out.c0
          have x1 := HO4.out.c1
          go_wp2_with fail
          refine (HI.out _ HO4.out a b HSZ.out.1 HSZ.out.2.1).mono ?_
          rintro e w5 ⟨rfl, g⟩
          have HO5 := Lib.hid (HO4.out.on g)
          clear g x0 x1 HO4
          rw [HP.out]
          have x0 := HO5.out.c0
          have x1 := HO5.out.c1
          go_wp2_with fail
          refine (HI.out _ HO5.out b a HSZ.out.2.1 HSZ.out.1).mono ?_
          rintro e w6 ⟨rfl, g⟩
          have HO6 := Lib.hid (HO5.out.on g)
          clear g x0 x1 HO5
          rw [HU.out HP.out]
          go_wp2_with fail
          go_ret
          exact ⟨rfl, HO6.out.below⟩
      | true =>
        have HR := Lib.hid hq
        clear hq
        have x0 := HO1.out.c0
        have x1 := HO1.out.c1
        go_wp2_with fail
        refine (HI.out _ HO1.out a b HSZ.out.1 HSZ.out.2.1).mono ?_
        rintro e w2 ⟨rfl, g⟩
        have HO2 := Lib.hid (HO1.out.on g)
        clear g x0 x1 HO1
        rw [HP.out]
        have x0 := HO2.out.c0
        have x1 := HO2.out.c1
        go_wp2_with fail
        refine (HI.out _ HO2.out b c HSZ.out.2.1 HSZ.out.2.2).mono ?_
        rintro e w3 ⟨rfl, g⟩
        have HO3 := Lib.hid (HO2.out.on g)
        clear g x0 x1 HO2
        rw [HR.out]
        have x0 := HO3.out.c0
        have x1 := HO3.out.c1
        go_wp2_with fail
        refine (HI.out _ HO3.out a c HSZ.out.1 HSZ.out.2.2).mono ?_
        rintro e w4 ⟨rfl, g⟩
        have HO4 := Lib.hid (HO3.out.on g)
        clear g x0 x1 HO3
        rw [HT.out HP.out HR.out]
        go_wp2_with fail
        refine (HQ.out _).mono ?_
        rintro e w5 ⟨rfl, g⟩
        have HO5 := Lib.hid (HO4.out.on g)
        clear g HO4
        cases he : eqT a b with
        | true =>
          have e1 : (a.toList == b.toList) = true := he
          clear he
          go_wp2_with fail
          go_ret
          exact ⟨rfl, HO5.out.below⟩
        | false =>
          have HU := Lib.hid (HA.out (HE.out.1 he))
          have e1 : (a.toList == b.toList) = false := he
          clear he
          have x0 := HO5.out.c0
          have x1 := HO5.out.c1
          go_wp2_with fail
          refine (HI.out _ HO5.out a b HSZ.out.1 HSZ.out.2.1).mono ?_
          rintro e w6 ⟨rfl, g⟩
          have HO6 := Lib.hid (HO5.out.on g)
          clear g x0 x1 HO5
          rw [HP.out]
          have x0 := HO6.out.c0
          have x1 := HO6.out.c1
          go_wp2_with fail
          refine (HI.out _ HO6.out b a HSZ.out.2.1 HSZ.out.1).mono ?_
          rintro e w7 ⟨rfl, g⟩
          have HO7 := Lib.hid (HO6.out.on g)
          clear g x0 x1 HO6
          rw [HU.out HP.out]
          go_wp2_with fail
          go_ret
          exact ⟨rfl, HO7.out.below⟩
end Go.Proofs.Ytekhkmhpeefenaa
