/-
  Layer 8's law: RolesAdds. (Made by wip/gen_rlaw.py.)
-/
import Derived.Test.YtekhkmhpeefenaaLaw08i
import Derived.Test.YtekhkmhpeefenaaRolU
import Derived.Test.YtekhkmhpeefenaaRolY
namespace Go.Proofs.Ytekhkmhpeefenaa
set_option linter.unusedVariables false
open Go.RowKit Go.Sort Go.Shelf

set_option maxRecDepth 100000 in
set_option maxHeartbeats 16000000 in
theorem walk_rolesadds (r : Rols) (vn vm : Value) (a : ByteArray) (w : World) (h : rolP w (· < w.heap.size) [vn, vm] r) (hsh : shortR r) (ha : a.size ≤ maxLen) :
    Calls Try.prog 4 #[.agg #[vn, vm], .string a] w fun e w' => e = .returned (.bool true) ∧ Below w.heap.size w w' := by
  have hO := OpenR.start h (Nat.le_refl _)
  obtain ⟨na, nn, nc, ma, mn, mc, rfl, rfl, hnn, hmn, _, _, _, _, hn, hm⟩ := rol_form h
  have HL := Lib.hid (fun W (ho : OpenR w w.heap.size (.slice na nn nc) (.slice ma mn mc) r W) => law08_large_any w.heap.size r _ _ W ho.rol)
  have HO := Lib.hid hO
  have x0 := hO.c0
  have x1 := hO.c1
  have HNN := Lib.hid hnn; have HMN := Lib.hid hmn
  clear h hn hm hO hnn hmn
  go_enter Try.func4, Try.ntmps4
  go_wp2_with fail
  generalize World.alloc w _ = w0 at *
  refine (HL.out _ HO.out).mono ?_
  rintro e w1 ⟨rfl, g1⟩
  have HO1 := Lib.hid (HO.out.on g1.below)
  clear g1 x0 x1 HO
  have x0 := HO1.out.c0
  have x1 := HO1.out.c1
  cases hlg : largeR r with
  | true =>
    go_wp2_with fail
    go_ret
    exact ⟨rfl, HO1.out.below⟩
  | false =>
    have hs3 := largeR_no hlg
    have hp1 := fun W (ho : OpenR w w.heap.size (.slice na nn nc) (.slice ma mn mc) r W) => prog_radd_any w.heap.size _ _ r a W ho.rol ho.base hs3 hsh ha
    have hp2 := fun W (ho : OpenR w w.heap.size (.slice na nn nc) (.slice ma mn mc) r W) => prog_rdrop_any w.heap.size _ _ r a W ho.rol ho.base hs3 hsh
    have HW := Lib.hid (ref_rown_any w.heap.size _ _ r w1 HO1.out.rol HO1.out.base hs3)
    have HS3 := Lib.hid hs3
    clear hlg hs3 hsh ha
    have HP1 := Lib.hid hp1; have HP2 := Lib.hid hp2
    clear hp1 hp2
    go_wp2_with fail
    refine HW.out.mono ?_
    rintro e w2 ⟨vn2, vm2, rfl, hn2, hm2, g2⟩
    have HO2 := Lib.hid (HO1.out.on g2)
    have hro := rol_keep (rol_own hn2 hm2) (S' := (· < w2.heap.size)) (fun k hk => hk.lt) Keeps.refl
    obtain ⟨na2, nc2, rfl, _, _⟩ := id hn2.form
    obtain ⟨ma2, mc2, rfl, _, _⟩ := id hm2.form
    rw [HNN.out, HMN.out] at hro ⊢
    have hq1 := fun W (ho : OpenR w2 w2.heap.size (.slice na2 nn nc2) (.slice ma2 mn mc2) r W) => ref_radd_any w2.heap.size _ _ r a W ho.rol ho.base HS3.out
    have hq2 := fun W (ho : OpenR w2 w2.heap.size (.slice na2 nn nc2) (.slice ma2 mn mc2) r W) => ref_rdrop_any w2.heap.size _ _ r a W ho.rol ho.base HS3.out
    have hp1 := HP1.out; have hp2 := HP2.out
    clear HP1 HP2
    generalize addRF r a = P1 at hp1 hq1
    generalize dropRF r a = P2 at hp2 hq2
    obtain ⟨R1, e1⟩ := P1
    obtain ⟨R2, e2⟩ := P2
    have HP1 := Lib.hid hp1; have HP2 := Lib.hid hp2; have HQ1 := Lib.hid hq1; have HQ2 := Lib.hid hq2
    clear hp1 hp2 hq1 hq2
    have hal := (Below.refl w2.heap.size w2).alloc (Nat.le_refl _) (.cells #[.slice na2 nn nc2, .slice ma2 mn mc2] 25)
    have HO_A := Lib.hid (HO2.out.on hal)
    have HW_A := Lib.hid (OpenR.start hro (Nat.le_refl _))
    clear hn2 hm2 g2 x0 x1 hro hal HO1 HO2 HL HW
    have x0 := HO_A.out.c0
    have x1 := HO_A.out.c1
    go_wp2_with fail
    generalize World.alloc w2 _ = wA at *
    refine (HP1.out wA HO_A.out).mono ?_
    rintro e wB ⟨vnB, vmB, rfl, hn, hm, g⟩
    simp only at hn hm ⊢
    obtain ⟨anB, cnB, rfl, _, _⟩ := id hn.form
    obtain ⟨amB, cmB, rfl, _, _⟩ := id hm.form
    have HO_B := Lib.hid (HO_A.out.on g)
    have HW_B := Lib.hid (HW_A.out.on g)
    have HS_B := Lib.hid (show wA.heap.size ≤ wB.heap.size from g.size)
    have XnD := Lib.hid (fun k (hk : (Value.slice anB R1.names.length cnB).ownBlock = some k) => (show k < wB.heap.size from (hn.block hk).2.lt))
    have XmD := Lib.hid (fun k (hk : (Value.slice amB R1.mems.length cmB).ownBlock = some k) => (show k < wB.heap.size from (hm.block hk).2.lt))
    have hal := (Below.refl wB.heap.size wB).alloc (Nat.le_refl _) (.cells #[.slice anB R1.names.length cnB, .slice amB R1.mems.length cmB] 25)
    have HO_C := Lib.hid (HO_B.out.on hal)
    have HW_C := Lib.hid (HW_B.out.on hal)
    have HX_C := Lib.hid (OpenR.start (rol_keep (rol_own hn hm) (S' := (· < wB.heap.size)) (fun k hk => hk.lt) Keeps.refl) (Nat.le_refl _))
    have Xn_C := Lib.hid (hn.below str_stays hal); have Xm_C := Lib.hid (hm.below mem_stays hal)
    clear hn hm g hal x0 x1
    have x0 := HW_C.out.c0
    have x1 := HW_C.out.c1
    go_wp2_with fail
    generalize World.alloc wB _ = wC at *
    refine (HQ1.out wC HW_C.out).mono ?_
    rintro e wD ⟨vnD, vmD, rfl, hn, hm, g⟩
    simp only at hn hm ⊢
    obtain ⟨anD, cnD, rfl, _, _⟩ := id hn.form
    obtain ⟨amD, cmD, rfl, _, _⟩ := id hm.form
    have HO_D := Lib.hid (HO_C.out.on g)
    have HW_D := Lib.hid (HW_C.out.on g)
    have HX_D := Lib.hid (HX_C.out.on g)
    have Xn_D := Lib.hid (Xn_C.out.below str_stays g); have Xm_D := Lib.hid (Xm_C.out.below mem_stays g)
    have HS_D := Lib.hid (show wC.heap.size ≤ wD.heap.size from g.size)
    have hal := (Below.refl wD.heap.size wD).alloc (Nat.le_refl _) (.cells #[.slice anD R1.names.length cnD, .slice amD R1.mems.length cmD] 25)
    have HO_E := Lib.hid (HO_D.out.on hal)
    have HW_E := Lib.hid (HW_D.out.on hal)
    have HX_E := Lib.hid (HX_D.out.on hal)
    have Xn_E := Lib.hid (Xn_D.out.below str_stays hal); have Xm_E := Lib.hid (Xm_D.out.below mem_stays hal)
    have HZ_E := Lib.hid (OpenR.start (rol_keep (rol_own hn hm) (S' := (· < wD.heap.size)) (fun k hk => hk.lt) Keeps.refl) (Nat.le_refl _))
    have Zn_E := Lib.hid (hn.below str_stays hal); have Zm_E := Lib.hid (hm.below mem_stays hal)
    clear hn hm g hal x0 x1
    have x0 := HO_E.out.c0
    have x1 := HO_E.out.c1
    go_wp2_with fail
    generalize World.alloc wD _ = wE at *
    refine (HP2.out wE HO_E.out).mono ?_
    rintro e wF ⟨vnF, vmF, rfl, hn, hm, g⟩
    simp only at hn hm ⊢
    obtain ⟨anF, cnF, rfl, _, _⟩ := id hn.form
    obtain ⟨amF, cmF, rfl, _, _⟩ := id hm.form
    have HO_F := Lib.hid (HO_E.out.on g)
    have HW_F := Lib.hid (HW_E.out.on g)
    have HX_F := Lib.hid (HX_E.out.on g)
    have HZ_F := Lib.hid (HZ_E.out.on g)
    have Xn_F := Lib.hid (Xn_E.out.below str_stays g); have Xm_F := Lib.hid (Xm_E.out.below mem_stays g)
    have Zn_F := Lib.hid (Zn_E.out.below str_stays g); have Zm_F := Lib.hid (Zm_E.out.below mem_stays g)
    have HS_F := Lib.hid (show wE.heap.size ≤ wF.heap.size from g.size)
    have YnD := Lib.hid (fun k (hk : (Value.slice anF R2.names.length cnF).ownBlock = some k) => (show k < wF.heap.size from (hn.block hk).2.lt))
    have YmD := Lib.hid (fun k (hk : (Value.slice amF R2.mems.length cmF).ownBlock = some k) => (show k < wF.heap.size from (hm.block hk).2.lt))
    have hal := (Below.refl wF.heap.size wF).alloc (Nat.le_refl _) (.cells #[.slice anF R2.names.length cnF, .slice amF R2.mems.length cmF] 25)
    have HO_G := Lib.hid (HO_F.out.on hal)
    have HW_G := Lib.hid (HW_F.out.on hal)
    have HX_G := Lib.hid (HX_F.out.on hal)
    have HZ_G := Lib.hid (HZ_F.out.on hal)
    have Xn_G := Lib.hid (Xn_F.out.below str_stays hal); have Xm_G := Lib.hid (Xm_F.out.below mem_stays hal)
    have Zn_G := Lib.hid (Zn_F.out.below str_stays hal); have Zm_G := Lib.hid (Zm_F.out.below mem_stays hal)
    have HY_G := Lib.hid (OpenR.start (rol_keep (rol_own hn hm) (S' := (· < wF.heap.size)) (fun k hk => hk.lt) Keeps.refl) (Nat.le_refl _))
    have Yn_G := Lib.hid (hn.below str_stays hal); have Ym_G := Lib.hid (hm.below mem_stays hal)
    clear hn hm g hal x0 x1
    have x0 := HW_G.out.c0
    have x1 := HW_G.out.c1
    go_wp2_with fail
    generalize World.alloc wF _ = wG at *
    refine (HQ2.out wG HW_G.out).mono ?_
    rintro e wH ⟨vnH, vmH, rfl, hn, hm, g⟩
    simp only at hn hm ⊢
    obtain ⟨anH, cnH, rfl, _, _⟩ := id hn.form
    obtain ⟨amH, cmH, rfl, _, _⟩ := id hm.form
    have HO_H := Lib.hid (HO_G.out.on g)
    have HW_H := Lib.hid (HW_G.out.on g)
    have HX_H := Lib.hid (HX_G.out.on g)
    have HZ_H := Lib.hid (HZ_G.out.on g)
    have HY_H := Lib.hid (HY_G.out.on g)
    have Xn_H := Lib.hid (Xn_G.out.below str_stays g); have Xm_H := Lib.hid (Xm_G.out.below mem_stays g)
    have Zn_H := Lib.hid (Zn_G.out.below str_stays g); have Zm_H := Lib.hid (Zm_G.out.below mem_stays g)
    have Yn_H := Lib.hid (Yn_G.out.below str_stays g); have Ym_H := Lib.hid (Ym_G.out.below mem_stays g)
    have HS_H := Lib.hid (show wG.heap.size ≤ wH.heap.size from g.size)
    have hal := (Below.refl wH.heap.size wH).alloc (Nat.le_refl _) (.cells #[.slice anH R2.names.length cnH, .slice amH R2.mems.length cmH] 25)
    have HO_I := Lib.hid (HO_H.out.on hal)
    have HW_I := Lib.hid (HW_H.out.on hal)
    have HX_I := Lib.hid (HX_H.out.on hal)
    have HZ_I := Lib.hid (HZ_H.out.on hal)
    have HY_I := Lib.hid (HY_H.out.on hal)
    have Xn_I := Lib.hid (Xn_H.out.below str_stays hal); have Xm_I := Lib.hid (Xm_H.out.below mem_stays hal)
    have Zn_I := Lib.hid (Zn_H.out.below str_stays hal); have Zm_I := Lib.hid (Zm_H.out.below mem_stays hal)
    have Yn_I := Lib.hid (Yn_H.out.below str_stays hal); have Ym_I := Lib.hid (Ym_H.out.below mem_stays hal)
    have HV_I := Lib.hid (OpenR.start (rol_keep (rol_own hn hm) (S' := (· < wH.heap.size)) (fun k hk => hk.lt) Keeps.refl) (Nat.le_refl _))
    have Vn_I := Lib.hid (hn.below str_stays hal); have Vm_I := Lib.hid (hm.below mem_stays hal)
    clear hn hm g hal x0 x1
    go_wp2_with fail
    generalize World.alloc wH _ = wI at *
    refine (law08_adds_any wI).mono ?_
    rintro e wJ ⟨rfl, g⟩
    have HO_J := Lib.hid (HO_I.out.on g)
    have HW_J := Lib.hid (HW_I.out.on g)
    have HX_J := Lib.hid (HX_I.out.on g)
    have HZ_J := Lib.hid (HZ_I.out.on g)
    have HY_J := Lib.hid (HY_I.out.on g)
    have HV_J := Lib.hid (HV_I.out.on g)
    have Xn_J := Lib.hid (Xn_I.out.below str_stays g); have Xm_J := Lib.hid (Xm_I.out.below mem_stays g)
    have Zn_J := Lib.hid (Zn_I.out.below str_stays g); have Zm_J := Lib.hid (Zm_I.out.below mem_stays g)
    have Yn_J := Lib.hid (Yn_I.out.below str_stays g); have Ym_J := Lib.hid (Ym_I.out.below mem_stays g)
    have Vn_J := Lib.hid (Vn_I.out.below str_stays g); have Vm_J := Lib.hid (Vm_I.out.below mem_stays g)
    clear g
    have HT1 := Lib.hid (law08_told_any wA.heap.size wB.heap.size R1 r _ _ _ _ _ _ _ _ e1 wJ HS_B.out (by have := HX_J.out.size; omega) Xn_J.out Xm_J.out XnD.out XmD.out
      (rol_keep HZ_J.out.rol (S' := (· < wJ.heap.size)) (fun k hk => Nat.lt_of_lt_of_le hk HZ_J.out.base) Keeps.refl)
      (rol_keep HO_J.out.rol (S' := (· < wA.heap.size)) (fun k hk => by have := HO_A.out.size; omega) Keeps.refl)
      (rol_keep HW_J.out.rol (S' := (· < wA.heap.size)) (fun k hk => by have := HW_A.out.size; omega) Keeps.refl))
    have x0 := HX_J.out.c0
    have x1 := HX_J.out.c1
    have z0 := HZ_J.out.c0
    have z1 := HZ_J.out.c1
    have o0 := HO_J.out.c0
    have o1 := HO_J.out.c1
    have v0 := HW_J.out.c0
    have v1 := HW_J.out.c1
    go_wp2_with fail
    refine HT1.out.mono ?_
    rintro e wK ⟨rfl, hk⟩
    have hBE : wB.heap.size ≤ wE.heap.size := by have := HX_E.out.size; omega
    have hBG : wB.heap.size ≤ wG.heap.size := by have := HX_G.out.size; omega
    have hAE : wA.heap.size ≤ wE.heap.size := Nat.le_trans HS_B.out hBE
    have hOA := HO_A.out.size
    have hWA := HW_A.out.size
    have hYn := Yn_J.out.move (fun h => h) hk fun k h => .inr (Nat.le_trans hBE (Yn_J.out.block h).1)
    have hYm := Ym_J.out.move (fun h => h) hk fun k h => .inr (Nat.le_trans hBE (Ym_J.out.block h).1)
    have hVn := Vn_J.out.move (fun h => h) hk fun k h => .inr (Nat.le_trans hBG (Vn_J.out.block h).1)
    have hVm := Vm_J.out.move (fun h => h) hk fun k h => .inr (Nat.le_trans hBG (Vm_J.out.block h).1)
    have HT2 := Lib.hid (law08_told_any wE.heap.size wF.heap.size R2 r _ _ _ _ _ _ _ _ e2 wK HS_F.out (by have := HY_J.out.size; have := hk.size; omega) hYn hYm YnD.out YmD.out
      (rol_keep (rol_own hVn hVm) (S' := (· < wK.heap.size)) (fun k hk => hk.lt) Keeps.refl)
      (rol_keep HO_J.out.rol (S' := (· < wE.heap.size)) (fun k h => by omega) (hk.mono fun k h => .inl (show k < wA.heap.size by omega)))
      (rol_keep HW_J.out.rol (S' := (· < wE.heap.size)) (fun k h => by omega) (hk.mono fun k h => .inl (show k < wA.heap.size by omega))))
    have ry := hk.row HY_J.out.box (.inr (by have := HS_F.out; omega))
    have rv := hk.row HV_J.out.box (.inr (by have := HS_H.out; omega))
    have ro := hk.row HO_J.out.box (.inl (by omega))
    have rw' := hk.row HW_J.out.box (.inl (by omega))
    have HBK := Lib.hid (HO_J.out.below.trans (hk.below HO_J.out.below.size fun j hj => .inl (by omega)))
    have HEL := Lib.hid (show w.heap.size ≤ wE.heap.size by omega)
    clear x0 x1 z0 z1 o0 o1 v0 v1 hk hYn hYm hVn hVm hBE hBG hAE hOA hWA
    have x0 := box_at ry 0 rfl
    have x1 := box_at ry 1 rfl
    have z0 := box_at rv 0 rfl
    have z1 := box_at rv 1 rfl
    have o0 := box_at ro 0 rfl
    have o1 := box_at ro 1 rfl
    have v0 := box_at rw' 0 rfl
    have v1 := box_at rw' 1 rfl
    clear ry rv ro rw'
    go_wp2_with fail
    refine HT2.out.mono ?_
    rintro e wL ⟨rfl, hk⟩
    have HF := Lib.hid (HBK.out.trans (hk.below HBK.out.size fun j hj => .inl (by have := HEL.out; omega)))
    clear hk
    go_wp2_with fail
    go_ret
    exact ⟨rfl, HF.out⟩
end Go.Proofs.Ytekhkmhpeefenaa
