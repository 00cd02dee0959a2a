/-
  Layer 8's law: RolesAll.
-/
import Derived.Test.YtekhkmhpeefenaaRolJ
import Derived.Test.YtekhkmhpeefenaaRolL
import Derived.Test.YtekhkmhpeefenaaRolN
import Derived.Test.YtekhkmhpeefenaaQuietR
import Derived.Test.YtekhkmhpeefenaaLaw08a
namespace Go.Proofs.Ytekhkmhpeefenaa
set_option linter.unusedVariables false
open Go.RowKit Go.Sort Go.Shelf

set_option maxRecDepth 100000 in
set_option maxHeartbeats 16000000 in
theorem walk_rall (r : Rols) (vn vm : Value) (x y : ByteArray) (w : World) (h : rolP w (· < w.heap.size) [vn, vm] r) (hsh : shortR r) (hx : x.size ≤ maxLen) (hy : y.size ≤ maxLen) :
    Calls Try.prog 6 #[.agg #[vn, vm], .string x, .string y] w fun e w' => e = .returned (.bool true) ∧ Below w.heap.size w w' := by
  have mixed := mixed_ok
  have hO := OpenR.start h (Nat.le_refl _)
  obtain ⟨na, nn, nc, ma, mn, mc, rfl, rfl, hnn, hmn, _, _, _, _, hn, hm⟩ := rol_form h
  have HL := Lib.hid (fun W (ho : OpenR w w.heap.size (.slice na nn nc) (.slice ma mn mc) r W) => law08_large_any w.heap.size r _ _ W ho.rol)
  have HO := Lib.hid hO
  have x0 := hO.c0
  have x1 := hO.c1
  have HNN := Lib.hid hnn; have HMN := Lib.hid hmn
  clear h hn hm hO hnn hmn
  go_enter Try.func6, Try.ntmps6
  go_wp2_with fail
  generalize World.alloc w _ = w0 at *
  refine (HL.out _ HO.out).mono ?_
  rintro e w1 ⟨rfl, g1⟩
  have HO1 := Lib.hid (HO.out.on g1.below)
  clear g1 x0 x1 HO
  have x0 := HO1.out.c0
  have x1 := HO1.out.c1
  cases hlg : largeR r with
  | true =>
    go_wp2_with fail
    go_ret
    exact ⟨rfl, HO1.out.below⟩
  | false =>
    have hs3 := largeR_no hlg
    have HW := Lib.hid (ref_rown_any w.heap.size _ _ r w1 HO1.out.rol HO1.out.base hs3)
    have HS3 := Lib.hid hs3; have HSH := Lib.hid hsh; have HX := Lib.hid hx; have HY := Lib.hid hy
    clear hlg hs3 hsh hx hy
    go_wp2_with fail
    refine HW.out.mono ?_
    rintro e w2 ⟨vn2, vm2, rfl, hn2, hm2, g2⟩
    have HO2 := Lib.hid (HO1.out.on g2)
    have HRO := Lib.hid (rol_keep (rol_own hn2 hm2) (S' := (· < w2.heap.size)) (fun k hk => hk.lt) Keeps.refl)
    obtain ⟨na2, nc2, rfl, _, _⟩ := id hn2.form
    obtain ⟨ma2, mc2, rfl, _, _⟩ := id hm2.form
    rw [HNN.out, HMN.out] at HRO ⊢
    have HOO := Lib.hid (OpenR.start HRO.out (Nat.le_refl _))
    have hz0 := HOO.out.c0
    have hz1 := HOO.out.c1
    have HO3 := Lib.hid (HO2.out.on ((Below.refl w2.heap.size w2).alloc (Nat.le_refl _) (.cells #[.slice na2 nn nc2, .slice ma2 mn mc2] 25)))
    clear hn2 hm2 g2 x0 x1
    have x0 := HO3.out.c0
    have x1 := HO3.out.c1
    go_wp2_with fail
    generalize World.alloc w2 _ = w3 at *
    refine (prog_rall_any w.heap.size _ _ r x w3 HO3.out.rol HO3.out.base HS3.out HSH.out HX.out).mono ?_
    rintro e w4 ⟨v8, rfl, hv8, g4⟩
    have HO4 := Lib.hid (HO3.out.on g4)
    have HOO4 := Lib.hid (HOO.out.on g4)
    obtain ⟨a8, c8, rfl, _, _⟩ := id hv8.form
    clear x0 x1 hz0 hz1
    have y0 := HOO4.out.c0
    have y1 := HOO4.out.c1
    have HB4 := Lib.hid g4
    have HV8 := Lib.hid hv8
    clear g4 hv8
    generalize hP : allF r x = P at *
    obtain ⟨L, c9⟩ := P
    simp only at *
    go_wp2_with fail
    refine (ref_rall_any w2.heap.size _ _ r x w4 HOO4.out.rol HOO4.out.base HS3.out).mono ?_
    rintro e w5 ⟨v10, rfl, hv10, g5⟩
    rw [hP] at hv10 ⊢
    simp only at hv10
    obtain ⟨a10, c10, rfl, _, _⟩ := id hv10.form
    have hv8' := HV8.out.below str_stays g5
    have HB5 := Lib.hid (below_on HB4.out (Nat.le_refl _) g5)
    have hl8 : Lst w5 (· < w5.heap.size) strP 1 (.slice a8 L.length c8) L := (hv8'.lst str_stays).keep (fun k hk => hk.lt) Keeps.refl fun _ _ _ h => h
    have hl10 : Lst w5 (· < w5.heap.size) strP 1 (.slice a10 L.length c10) L := (hv10.lst str_stays).keep (fun k hk => hk.lt) Keeps.refl fun _ _ _ h => h
    have HT := Lib.hid (keep_texts_any w5.heap.size a8 L.length c8 a10 L.length c10 L L w5 hl8 hl10 (Nat.le_refl _))
    rw [decide_eq_true (show L = L from rfl)] at HT
    have HV5 := Lib.hid hv8'
    clear hv10 hv8' hl8 hl10 g5 y0 y1
    go_wp2_with fail
    refine HT.out.mono ?_
    rintro e w6 ⟨rfl, g6⟩
    have HS6 : Hid (StrRow w6 w3.heap.size 9 1 (.slice a8 L.length c8) L.length ∧ Below w3.heap.size w3 w6) := Lib.hid ⟨StrRow.of_strs (HV5.out.below str_stays g6.below), below_on HB5.out (Nat.le_refl _) g6.below⟩
    have hn8 : L.length ≤ 9223372036854775807 := by
      obtain ⟨_, _, he, h1, h2⟩ := HV5.out.form
      unfold maxLen at h2
      omega
    clear g6
    generalize L.length = n8 at *
    go_wp2_with fail
    go_loopw [13] (fun i wr => ∃ k : Nat, k ≤ n8 ∧ i = .int .i64 k ∧ Hid (StrRow wr w3.heap.size 9 1 (.slice a8 n8 c8) n8 ∧ Below w3.heap.size w3 wr)) (fun i _ => n8 - (intOf i).toNat)
    case atStart => exact ⟨0, Nat.zero_le _, rfl, HS6⟩
    case round =>
      clear HS6
      obtain ⟨k, hk, rfl, HR⟩ := hrel
      obtain ⟨hrow, hb⟩ := HR.out
      by_cases hlt : k < n8
      · obtain ⟨g, s, rfl, hg, hc, hz⟩ := hrow.at (o := k) (by omega)
        have k0 : (0 : Int) ≤ (k : Int) := by omega
        have k1 : (k : Int) < (n8 : Int) := by omega
        have HN := Lib.hid (And.intro (hrow.put k ⟨#[111, 118, 101, 114]⟩) (hb.trans (Keeps.below (S := (· ≠ g)) (Keeps.refl.setCell (p := ⟨g, k, none⟩) (by simp) (.string ⟨#[111, 118, 101, 114]⟩)) hb.size fun j hj => by omega)))
        have HKN := Lib.hid (show k + 1 ≤ n8 by omega)
        clear hrow hb HR
        go_wp2_with fail
        go_roundw
        case rel => exact ⟨k + 1, HKN.out, by go_num, HN⟩
        case measure => have := HKN.out; simp [intOf]; omega
      · have HOF := Lib.hid (HO3.out.on hb)
        have HOOF := Lib.hid (HOO.out.on hb)
        clear hrow hb HR
        generalize wr = w9 at *
        have x0 := HOF.out.c0
        have x1 := HOF.out.c1
        have y0 := HOOF.out.c0
        have y1 := HOOF.out.c1
        have d0 := fun p => cell_belR x0 p
        have d1 := fun p => cell_belR x1 p
        have d2 := fun p => cell_belR y0 p
        have d3 := fun p => cell_belR y1 p
        have HQ := Lib.hid (fun (W : World) (_ : Below w9.heap.size w9 W) => law08_is_any W)
        have HI := Lib.hid (fun (W : World) (hW : Below w9.heap.size w9 W) => prog_ris_any w.heap.size _ _ r x y W (HOF.out.on hW).rol (HOF.out.on hW).base HS3.out HSH.out HX.out HY.out)
        have HJ := Lib.hid (fun (W : World) (hW : Below w9.heap.size w9 W) => ref_ris_any w2.heap.size _ _ r x y W (HOOF.out.on hW).rol (HOOF.out.on hW).base HS3.out)
        have HM := Lib.hid (fun (W : World) (hW : Below w9.heap.size w9 W) => (ref_rsame_any W.heap.size r r _ _ _ _ W (rol_keep (HOF.out.on hW).rol (fun k hk => Nat.lt_of_lt_of_le hk (HOF.out.on hW).base) Keeps.refl) (rol_keep (HOOF.out.on hW).rol (fun k hk => Nat.lt_of_lt_of_le hk (HOOF.out.on hW).base) Keeps.refl) (Nat.le_refl _)).mono (R' := fun e w' => e = .returned (.bool true) ∧ Below W.heap.size W w') fun _ _ ⟨h1, h2⟩ => ⟨by rw [h1, decide_eq_true (show r = r from rfl)], h2.below⟩)
        have HBW := Lib.hid (fun (W : World) (hW : Below w9.heap.size w9 W) => (HOF.out.on hW).below)
        clear x0 x1 y0 y1
        generalize isR r x y = q at *
        cases q with
        | true =>
          go_wp2_with fail
          refine wp_region_quiet_belR mixed (by kernel_rfl) ?_
          repeat (go_big_quiet_step (first
            | (go_at_call 28; exact belR_call HQ.out)
            | (go_at_call 29; exact belR_call HI.out)
            | (go_at_call 30; exact belR_call HJ.out)
            | (go_at_call 31; exact belR_call HM.out)))
          refine Go.wpQuiet_nil ?_
          intro w10 hw'
          obtain ⟨⟨w8, h8⟩, hw''⟩ := hw'
          subst hw''
          have HF := Lib.hid (HBW.out _ h8)
          go_wp2_with fail
          go_ret
          exact ⟨rfl, HF.out⟩
        | false =>
          go_wp2_with fail
          refine wp_region_quiet_belR mixed (by kernel_rfl) ?_
          repeat (go_big_quiet_step (first
            | (go_at_call 28; exact belR_call HQ.out)
            | (go_at_call 29; exact belR_call HI.out)
            | (go_at_call 30; exact belR_call HJ.out)
            | (go_at_call 31; exact belR_call HM.out)))
          refine Go.wpQuiet_nil ?_
          intro w10 hw'
          obtain ⟨⟨w8, h8⟩, hw''⟩ := hw'
          subst hw''
          have HF := Lib.hid (HBW.out _ h8)
          go_wp2_with fail
          go_ret
          exact ⟨rfl, HF.out⟩
end Go.Proofs.Ytekhkmhpeefenaa
