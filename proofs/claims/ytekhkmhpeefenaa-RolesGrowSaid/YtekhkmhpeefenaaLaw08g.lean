/-
  Layer 8's law: RolesGrow. (Made by wip/gen_grow.py.)
-/
import Derived.Test.YtekhkmhpeefenaaLaw08f
import Derived.Test.YtekhkmhpeefenaaRolN
namespace Go.Proofs.Ytekhkmhpeefenaa
set_option linter.unusedVariables false
open Go.RowKit Go.Sort Go.Shelf

set_option maxRecDepth 100000 in
set_option maxHeartbeats 16000000 in
theorem walk_grow (r : Rols) (vn vm : Value) (a b o : ByteArray) (w : World) (h : rolP w (· < w.heap.size) [vn, vm] r) (hsh : shortR r) (ha : a.size ≤ maxLen) (hb : b.size ≤ maxLen) (ho : o.size ≤ maxLen) :
    Calls Try.prog 8 #[.agg #[vn, vm], .string a, .string b, .string o] w fun e w' => e = .returned (.bool true) ∧ Below w.heap.size w w' := by
  have hO := OpenR.start h (Nat.le_refl _)
  obtain ⟨na, nn, nc, ma, mn, mc, rfl, rfl, hnn, hmn, _, _, _, _, hn, hm⟩ := rol_form h
  have HL := Lib.hid (fun W (ho : OpenR w w.heap.size (.slice na nn nc) (.slice ma mn mc) r W) => law08_large_any w.heap.size r _ _ W ho.rol)
  have HO := Lib.hid hO
  have x0 := hO.c0
  have x1 := hO.c1
  have HNN := Lib.hid hnn; have HMN := Lib.hid hmn
  clear h hn hm hO hnn hmn
  go_enter Try.func8, Try.ntmps8
  go_wp2_with fail
  generalize World.alloc w _ = w0 at *
  refine (HL.out _ HO.out).mono ?_
  rintro e w1 ⟨rfl, g1⟩
  have HO1 := Lib.hid (HO.out.on g1.below)
  clear g1 x0 x1 HO
  have x0 := HO1.out.c0
  have x1 := HO1.out.c1
  cases hlg : largeR r with
  | true =>
    go_wp2_with fail
    go_ret
    exact ⟨rfl, HO1.out.below⟩
  | false =>
    have hs3 := largeR_no hlg
    have HJ := Lib.hid (prog_rjoin_any w.heap.size _ _ r a b w1 HO1.out.rol HO1.out.base hs3 hsh ha hb)
    have HS3 := Lib.hid hs3; have HSH := Lib.hid hsh; have HA := Lib.hid ha; have HB := Lib.hid hb; have HOO := Lib.hid ho
    have HYES := Lib.hid (joinF_yes (r := r) (a := a) (b := b))
    clear hlg hs3 hsh ha hb ho
    go_wp2_with fail
    refine HJ.out.mono ?_
    rintro e w2 ⟨vn2, vm2, rfl, hn2, hm2, g2⟩
    have HO2 := Lib.hid (HO1.out.on g2)
    generalize hP : joinF r a b = P at *
    obtain ⟨R, code⟩ := P
    simp only at hn2 hm2 ⊢
    have hro := rol_keep (rol_own hn2 hm2) (S' := (· < w2.heap.size)) (fun k hk => hk.lt) Keeps.refl
    obtain ⟨na2, nc2, rfl, _, _⟩ := id hn2.form
    obtain ⟨ma2, mc2, rfl, _, _⟩ := id hm2.form
    have hsR : code = 0 → Joined r R a b := fun h0 => by
      have := HYES.out (by simpa using h0)
      rw [(Prod.mk.inj this.1).1]
      exact this.2
    have HJD := Lib.hid hsR
    obtain ⟨nn2, hnn2⟩ : ∃ n, R.names.length = n := ⟨_, rfl⟩
    obtain ⟨mn2, hmn2⟩ : ∃ n, R.mems.length = n := ⟨_, rfl⟩
    rw [hnn2, hmn2] at hro ⊢
    have hOX := OpenR.start hro (Nat.le_refl _)
    have HOX := Lib.hid hOX
    have hal := (Below.refl w2.heap.size w2).alloc (Nat.le_refl _) (.cells #[.slice na2 nn2 nc2, .slice ma2 mn2 mc2] 25)
    have HO3 := Lib.hid (HO2.out.on hal)
    have z0 := hOX.c0
    have z1 := hOX.c1
    clear hn2 hm2 g2 x0 x1 hro hOX hal hsR HYES hP
    have x0 := HO3.out.c0
    have x1 := HO3.out.c1
    by_cases hc : code = 0
    · subst hc
      have hjd := HJD.out rfl
      have HD := Lib.hid hjd
      have hshR : shortR R := ⟨by rw [hjd.names]; exact HSH.out.1, fun m hm => by
        rw [hjd.mems] at hm
        rcases insBy_has.1 hm with rfl | hm
        · exact ⟨HA.out, HB.out⟩
        · exact HSH.out.2 m hm⟩
      have hsmR : smallR 3000 R := ⟨by rw [hjd.names]; exact HS3.out.1, hjd.few⟩
      have HLV := Lib.hid (fun W (ho : OpenR w2 w2.heap.size (.slice na2 nn2 nc2) (.slice ma2 mn2 mc2) R W) => prog_rleave_any w2.heap.size _ _ R a b W ho.rol ho.base hsmR hshR)
      have HIR := Lib.hid (fun W (ho : OpenR w w.heap.size (.slice na nn nc) (.slice ma mn mc) r W) x (hx : x.size ≤ maxLen) => prog_ris_any w.heap.size _ _ r x o W ho.rol ho.base HS3.out HSH.out hx HOO.out)
      have HIX := Lib.hid (fun W (ho : OpenR w2 w2.heap.size (.slice na2 nn2 nc2) (.slice ma2 mn2 mc2) R W) => prog_ris_any w2.heap.size _ _ R a o W ho.rol ho.base hsmR hshR HA.out HOO.out)
      have HCX := Lib.hid (fun W (ho : OpenR w2 w2.heap.size (.slice na2 nn2 nc2) (.slice ma2 mn2 mc2) R W) => prog_rcheck_any w2.heap.size _ _ R W ho.rol ho.base hsmR hshR)
      have HOK := Lib.hid (show okR R = 0 by unfold okR; rw [rightR_iff.2 hjd.right]; rfl)
      clear hjd hshR hsmR
      go_wp2_with fail
      generalize World.alloc w2 _ = w3 at *
      refine (HLV.out w3 HOX.out).mono ?_
      rw [HD.out.back]
      rintro e w4 ⟨vn4, vm4, rfl, hn4, hm4, g4⟩
      simp only at hn4 hm4 ⊢
      have hro4 := rol_keep (rol_own hn4 hm4) (S' := (· < w4.heap.size)) (fun k hk => hk.lt) Keeps.refl
      obtain ⟨na4, nc4, rfl, _, _⟩ := id hn4.form
      obtain ⟨ma4, mc4, rfl, _, _⟩ := id hm4.form
      rw [HNN.out, HMN.out] at hro4 ⊢
      have hOY := OpenR.start hro4 (Nat.le_refl _)
      have HOY := Lib.hid hOY
      have hal := (Below.refl w4.heap.size w4).alloc (Nat.le_refl _) (.cells #[.slice na4 nn nc4, .slice ma4 mn mc4] 25)
      have HO5 := Lib.hid ((HO3.out.on g4).on hal)
      have HX5 := Lib.hid ((HOX.out.on g4).on hal)
      clear hn4 hm4 g4 x0 x1 z0 z1 hro4 hOY hal
      have hk5 := HD.out.kept o
      have hg5 := HD.out.grown o
      cases hp : isR r a o with
      | false =>
        have HP := Lib.hid hp
        clear hp
        have x0 := HO5.out.c0
        have x1 := HO5.out.c1
        have z0 := HX5.out.c0
        have z1 := HX5.out.c1
        have y0 := HOY.out.c0
        have y1 := HOY.out.c1
        go_wp2_with fail
        generalize World.alloc w4 _ = w5 at *
        refine (HIR.out w5 HO5.out a HA.out).mono ?_
        rintro e w6 ⟨rfl, g⟩
        have HO6 := Lib.hid (HO5.out.on g)
        have HX6 := Lib.hid (HX5.out.on g)
        have HOY6 := Lib.hid (HOY.out.on g)
        clear g
        clear x0 x1 z0 z1 y0 y1
        rw [HP.out]
        cases hq : isR r b o with
        | false =>
          have HQ := Lib.hid hq
          clear hq
          have x0 := HO6.out.c0
          have x1 := HO6.out.c1
          have z0 := HX6.out.c0
          have z1 := HX6.out.c1
          have y0 := HOY6.out.c0
          have y1 := HOY6.out.c1
          go_wp2_with fail
          refine (HIR.out w6 HO6.out b HB.out).mono ?_
          rintro e w7 ⟨rfl, g⟩
          have HO7 := Lib.hid (HO6.out.on g)
          have HX7 := Lib.hid (HX6.out.on g)
          have HOY7 := Lib.hid (HOY6.out.on g)
          clear g
          clear x0 x1 z0 z1 y0 y1
          rw [HQ.out]
          have x0 := HO7.out.c0
          have x1 := HO7.out.c1
          have z0 := HX7.out.c0
          have z1 := HX7.out.c1
          have y0 := HOY7.out.c0
          have y1 := HOY7.out.c1
          go_wp2_with fail
          refine (law08_joins_any w7).mono ?_
          rintro e w8 ⟨rfl, g⟩
          have HO8 := Lib.hid (HO7.out.on g)
          have HX8 := Lib.hid (HX7.out.on g)
          have HOY8 := Lib.hid (HOY7.out.on g)
          clear g
          clear x0 x1 z0 z1 y0 y1
          have x0 := HO8.out.c0
          have x1 := HO8.out.c1
          have z0 := HX8.out.c0
          have z1 := HX8.out.c1
          have y0 := HOY8.out.c0
          have y1 := HOY8.out.c1
          go_wp2_with fail
          refine (law08_is_any w8).mono ?_
          rintro e w9 ⟨rfl, g⟩
          have HO9 := Lib.hid (HO8.out.on g)
          have HX9 := Lib.hid (HX8.out.on g)
          have HOY9 := Lib.hid (HOY8.out.on g)
          clear g
          clear x0 x1 z0 z1 y0 y1
          have x0 := HO9.out.c0
          have x1 := HO9.out.c1
          have z0 := HX9.out.c0
          have z1 := HX9.out.c1
          have y0 := HOY9.out.c0
          have y1 := HOY9.out.c1
          go_wp2_with fail
          refine (HCX.out w9 HX9.out).mono ?_
          rintro e w10 ⟨rfl, g⟩
          have HO10 := Lib.hid (HO9.out.on g)
          have HX10 := Lib.hid (HX9.out.on g)
          have HOY10 := Lib.hid (HOY9.out.on g)
          clear g
          clear x0 x1 z0 z1 y0 y1
          rw [HOK.out]
          have x0 := HO10.out.c0
          have x1 := HO10.out.c1
          have z0 := HX10.out.c0
          have z1 := HX10.out.c1
          have y0 := HOY10.out.c0
          have y1 := HOY10.out.c1
          have HSM := Lib.hid (ref_rsame_any w10.heap.size r r _ _ _ _ w10 (rol_keep HOY10.out.rol (fun j hj => Nat.lt_of_lt_of_le hj HOY10.out.base) Keeps.refl) (rol_keep HO10.out.rol (fun j hj => Nat.lt_of_lt_of_le hj HO10.out.base) Keeps.refl) (Nat.le_refl _))
          rw [decide_eq_true (show r = r from rfl)] at HSM
          go_wp2_with fail
          refine HSM.out.mono ?_
          rintro e w11 ⟨rfl, g⟩
          have HE := Lib.hid (HO10.out.on g.below)
          clear g
          clear x0 x1 z0 z1 y0 y1
          go_wp2_with fail
          go_ret
          exact ⟨rfl, HE.out.below⟩
        | true =>
          have HQ := Lib.hid hq
          have HQX := Lib.hid (hg5 hq)
          clear hq
          have x0 := HO6.out.c0
          have x1 := HO6.out.c1
          have z0 := HX6.out.c0
          have z1 := HX6.out.c1
          have y0 := HOY6.out.c0
          have y1 := HOY6.out.c1
          go_wp2_with fail
          refine (HIR.out w6 HO6.out b HB.out).mono ?_
          rintro e w7 ⟨rfl, g⟩
          have HO7 := Lib.hid (HO6.out.on g)
          have HX7 := Lib.hid (HX6.out.on g)
          have HOY7 := Lib.hid (HOY6.out.on g)
          clear g
          clear x0 x1 z0 z1 y0 y1
          rw [HQ.out]
          have x0 := HO7.out.c0
          have x1 := HO7.out.c1
          have z0 := HX7.out.c0
          have z1 := HX7.out.c1
          have y0 := HOY7.out.c0
          have y1 := HOY7.out.c1
          go_wp2_with fail
          refine (HIX.out w7 HX7.out).mono ?_
          rintro e w8 ⟨rfl, g⟩
          have HO8 := Lib.hid (HO7.out.on g)
          have HX8 := Lib.hid (HX7.out.on g)
          have HOY8 := Lib.hid (HOY7.out.on g)
          clear g
          clear x0 x1 z0 z1 y0 y1
          rw [HQX.out]
          have x0 := HO8.out.c0
          have x1 := HO8.out.c1
          have z0 := HX8.out.c0
          have z1 := HX8.out.c1
          have y0 := HOY8.out.c0
          have y1 := HOY8.out.c1
          go_wp2_with fail
          refine (law08_joins_any w8).mono ?_
          rintro e w9 ⟨rfl, g⟩
          have HO9 := Lib.hid (HO8.out.on g)
          have HX9 := Lib.hid (HX8.out.on g)
          have HOY9 := Lib.hid (HOY8.out.on g)
          clear g
          clear x0 x1 z0 z1 y0 y1
          have x0 := HO9.out.c0
          have x1 := HO9.out.c1
          have z0 := HX9.out.c0
          have z1 := HX9.out.c1
          have y0 := HOY9.out.c0
          have y1 := HOY9.out.c1
          go_wp2_with fail
          refine (law08_is_any w9).mono ?_
          rintro e w10 ⟨rfl, g⟩
          have HO10 := Lib.hid (HO9.out.on g)
          have HX10 := Lib.hid (HX9.out.on g)
          have HOY10 := Lib.hid (HOY9.out.on g)
          clear g
          clear x0 x1 z0 z1 y0 y1
          have x0 := HO10.out.c0
          have x1 := HO10.out.c1
          have z0 := HX10.out.c0
          have z1 := HX10.out.c1
          have y0 := HOY10.out.c0
          have y1 := HOY10.out.c1
          go_wp2_with fail
          refine (HCX.out w10 HX10.out).mono ?_
          rintro e w11 ⟨rfl, g⟩
          have HO11 := Lib.hid (HO10.out.on g)
          have HX11 := Lib.hid (HX10.out.on g)
          have HOY11 := Lib.hid (HOY10.out.on g)
          clear g
          clear x0 x1 z0 z1 y0 y1
          rw [HOK.out]
          have x0 := HO11.out.c0
          have x1 := HO11.out.c1
          have z0 := HX11.out.c0
          have z1 := HX11.out.c1
          have y0 := HOY11.out.c0
          have y1 := HOY11.out.c1
          have HSM := Lib.hid (ref_rsame_any w11.heap.size r r _ _ _ _ w11 (rol_keep HOY11.out.rol (fun j hj => Nat.lt_of_lt_of_le hj HOY11.out.base) Keeps.refl) (rol_keep HO11.out.rol (fun j hj => Nat.lt_of_lt_of_le hj HO11.out.base) Keeps.refl) (Nat.le_refl _))
          rw [decide_eq_true (show r = r from rfl)] at HSM
          go_wp2_with fail
          refine HSM.out.mono ?_
          rintro e w12 ⟨rfl, g⟩
          have HE := Lib.hid (HO11.out.on g.below)
          clear g
          clear x0 x1 z0 z1 y0 y1
          go_wp2_with fail
          go_ret
          exact ⟨rfl, HE.out.below⟩
      | true =>
        have HP := Lib.hid hp
        have HPX := Lib.hid (hk5 hp)
        clear hp
        have x0 := HO5.out.c0
        have x1 := HO5.out.c1
        have z0 := HX5.out.c0
        have z1 := HX5.out.c1
        have y0 := HOY.out.c0
        have y1 := HOY.out.c1
        go_wp2_with fail
        generalize World.alloc w4 _ = w5 at *
        refine (HIR.out w5 HO5.out a HA.out).mono ?_
        rintro e w6 ⟨rfl, g⟩
        have HO6 := Lib.hid (HO5.out.on g)
        have HX6 := Lib.hid (HX5.out.on g)
        have HOY6 := Lib.hid (HOY.out.on g)
        clear g
        clear x0 x1 z0 z1 y0 y1
        rw [HP.out]
        have x0 := HO6.out.c0
        have x1 := HO6.out.c1
        have z0 := HX6.out.c0
        have z1 := HX6.out.c1
        have y0 := HOY6.out.c0
        have y1 := HOY6.out.c1
        go_wp2_with fail
        refine (HIX.out w6 HX6.out).mono ?_
        rintro e w7 ⟨rfl, g⟩
        have HO7 := Lib.hid (HO6.out.on g)
        have HX7 := Lib.hid (HX6.out.on g)
        have HOY7 := Lib.hid (HOY6.out.on g)
        clear g
        clear x0 x1 z0 z1 y0 y1
        rw [HPX.out]
        cases hq : isR r b o with
        | false =>
          have HQ := Lib.hid hq
          clear hq
          have x0 := HO7.out.c0
          have x1 := HO7.out.c1
          have z0 := HX7.out.c0
          have z1 := HX7.out.c1
          have y0 := HOY7.out.c0
          have y1 := HOY7.out.c1
          go_wp2_with fail
          refine (HIR.out w7 HO7.out b HB.out).mono ?_
          rintro e w8 ⟨rfl, g⟩
          have HO8 := Lib.hid (HO7.out.on g)
          have HX8 := Lib.hid (HX7.out.on g)
          have HOY8 := Lib.hid (HOY7.out.on g)
          clear g
          clear x0 x1 z0 z1 y0 y1
          rw [HQ.out]
          have x0 := HO8.out.c0
          have x1 := HO8.out.c1
          have z0 := HX8.out.c0
          have z1 := HX8.out.c1
          have y0 := HOY8.out.c0
          have y1 := HOY8.out.c1
          go_wp2_with fail
          refine (law08_joins_any w8).mono ?_
          rintro e w9 ⟨rfl, g⟩
          have HO9 := Lib.hid (HO8.out.on g)
          have HX9 := Lib.hid (HX8.out.on g)
          have HOY9 := Lib.hid (HOY8.out.on g)
          clear g
          clear x0 x1 z0 z1 y0 y1
          have x0 := HO9.out.c0
          have x1 := HO9.out.c1
          have z0 := HX9.out.c0
          have z1 := HX9.out.c1
          have y0 := HOY9.out.c0
          have y1 := HOY9.out.c1
          go_wp2_with fail
          refine (law08_is_any w9).mono ?_
          rintro e w10 ⟨rfl, g⟩
          have HO10 := Lib.hid (HO9.out.on g)
          have HX10 := Lib.hid (HX9.out.on g)
          have HOY10 := Lib.hid (HOY9.out.on g)
          clear g
          clear x0 x1 z0 z1 y0 y1
          have x0 := HO10.out.c0
          have x1 := HO10.out.c1
          have z0 := HX10.out.c0
          have z1 := HX10.out.c1
          have y0 := HOY10.out.c0
          have y1 := HOY10.out.c1
          go_wp2_with fail
          refine (HCX.out w10 HX10.out).mono ?_
          rintro e w11 ⟨rfl, g⟩
          have HO11 := Lib.hid (HO10.out.on g)
          have HX11 := Lib.hid (HX10.out.on g)
          have HOY11 := Lib.hid (HOY10.out.on g)
          clear g
          clear x0 x1 z0 z1 y0 y1
          rw [HOK.out]
          have x0 := HO11.out.c0
          have x1 := HO11.out.c1
          have z0 := HX11.out.c0
          have z1 := HX11.out.c1
          have y0 := HOY11.out.c0
          have y1 := HOY11.out.c1
          have HSM := Lib.hid (ref_rsame_any w11.heap.size r r _ _ _ _ w11 (rol_keep HOY11.out.rol (fun j hj => Nat.lt_of_lt_of_le hj HOY11.out.base) Keeps.refl) (rol_keep HO11.out.rol (fun j hj => Nat.lt_of_lt_of_le hj HO11.out.base) Keeps.refl) (Nat.le_refl _))
          rw [decide_eq_true (show r = r from rfl)] at HSM
          go_wp2_with fail
          refine HSM.out.mono ?_
          rintro e w12 ⟨rfl, g⟩
          have HE := Lib.hid (HO11.out.on g.below)
          clear g
          clear x0 x1 z0 z1 y0 y1
          go_wp2_with fail
          go_ret
          exact ⟨rfl, HE.out.below⟩
        | true =>
          have HQ := Lib.hid hq
          have HQX := Lib.hid (hg5 hq)
          clear hq
          have x0 := HO7.out.c0
          have x1 := HO7.out.c1
          have z0 := HX7.out.c0
          have z1 := HX7.out.c1
          have y0 := HOY7.out.c0
          have y1 := HOY7.out.c1
          go_wp2_with fail
          refine (HIR.out w7 HO7.out b HB.out).mono ?_
          rintro e w8 ⟨rfl, g⟩
          have HO8 := Lib.hid (HO7.out.on g)
          have HX8 := Lib.hid (HX7.out.on g)
          have HOY8 := Lib.hid (HOY7.out.on g)
          clear g
          clear x0 x1 z0 z1 y0 y1
          rw [HQ.out]
          have x0 := HO8.out.c0
          have x1 := HO8.out.c1
          have z0 := HX8.out.c0
          have z1 := HX8.out.c1
          have y0 := HOY8.out.c0
          have y1 := HOY8.out.c1
          go_wp2_with fail
          refine (HIX.out w8 HX8.out).mono ?_
          rintro e w9 ⟨rfl, g⟩
          have HO9 := Lib.hid (HO8.out.on g)
          have HX9 := Lib.hid (HX8.out.on g)
          have HOY9 := Lib.hid (HOY8.out.on g)
          clear g
          clear x0 x1 z0 z1 y0 y1
          rw [HQX.out]
          have x0 := HO9.out.c0
          have x1 := HO9.out.c1
          have z0 := HX9.out.c0
          have z1 := HX9.out.c1
          have y0 := HOY9.out.c0
          have y1 := HOY9.out.c1
          go_wp2_with fail
          refine (law08_joins_any w9).mono ?_
          rintro e w10 ⟨rfl, g⟩
          have HO10 := Lib.hid (HO9.out.on g)
          have HX10 := Lib.hid (HX9.out.on g)
          have HOY10 := Lib.hid (HOY9.out.on g)
          clear g
          clear x0 x1 z0 z1 y0 y1
          have x0 := HO10.out.c0
          have x1 := HO10.out.c1
          have z0 := HX10.out.c0
          have z1 := HX10.out.c1
          have y0 := HOY10.out.c0
          have y1 := HOY10.out.c1
          go_wp2_with fail
          refine (law08_is_any w10).mono ?_
          rintro e w11 ⟨rfl, g⟩
          have HO11 := Lib.hid (HO10.out.on g)
          have HX11 := Lib.hid (HX10.out.on g)
          have HOY11 := Lib.hid (HOY10.out.on g)
          clear g
          clear x0 x1 z0 z1 y0 y1
          have x0 := HO11.out.c0
          have x1 := HO11.out.c1
          have z0 := HX11.out.c0
          have z1 := HX11.out.c1
          have y0 := HOY11.out.c0
          have y1 := HOY11.out.c1
          go_wp2_with fail
          refine (HCX.out w11 HX11.out).mono ?_
          rintro e w12 ⟨rfl, g⟩
          have HO12 := Lib.hid (HO11.out.on g)
          have HX12 := Lib.hid (HX11.out.on g)
          have HOY12 := Lib.hid (HOY11.out.on g)
          clear g
          clear x0 x1 z0 z1 y0 y1
          rw [HOK.out]
          have x0 := HO12.out.c0
          have x1 := HO12.out.c1
          have z0 := HX12.out.c0
          have z1 := HX12.out.c1
          have y0 := HOY12.out.c0
          have y1 := HOY12.out.c1
          have HSM := Lib.hid (ref_rsame_any w12.heap.size r r _ _ _ _ w12 (rol_keep HOY12.out.rol (fun j hj => Nat.lt_of_lt_of_le hj HOY12.out.base) Keeps.refl) (rol_keep HO12.out.rol (fun j hj => Nat.lt_of_lt_of_le hj HO12.out.base) Keeps.refl) (Nat.le_refl _))
          rw [decide_eq_true (show r = r from rfl)] at HSM
          go_wp2_with fail
          refine HSM.out.mono ?_
          rintro e w13 ⟨rfl, g⟩
          have HE := Lib.hid (HO12.out.on g.below)
          clear g
          clear x0 x1 z0 z1 y0 y1
          go_wp2_with fail
          go_ret
          exact ⟨rfl, HE.out.below⟩
    · have hc2 : (code != 0) = true := by simpa using hc
      go_wp2_with fail
      generalize World.alloc w2 _ = w3 at *
      refine (law08_joins_any w3).mono ?_
      rintro e w4 ⟨rfl, g4⟩
      have HO4 := Lib.hid (HO3.out.on g4)
      clear g4 x0 x1 z0 z1
      go_wp2_with fail
      refine (law08_is_any w4).mono ?_
      rintro e w5 ⟨rfl, g5⟩
      have HO5 := Lib.hid (HO4.out.on g5)
      clear g5
      go_wp2_with fail
      go_ret
      exact ⟨rfl, HO5.out.below⟩
end Go.Proofs.Ytekhkmhpeefenaa
