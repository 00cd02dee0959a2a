/-
  Layer 8, the program, by contract: Check, Is.
-/
import Derived.Test.YtekhkmhpeefenaaRolE
namespace Go.Proofs.Ytekhkmhpeefenaa
set_option linter.unusedVariables false
open Go.RowKit Go.Sort Go.Shelf

/-- Roles in a box, and nothing but new blocks since. -/
structure OpenR (w : World) (B : Nat) (vn vm : Value) (r : Rols) (W : World) : Prop where
  box : W.heap[w.heap.size]? = some (.cells #[vn, vm] 25 (0, 0))
  below : Below w.heap.size w W
  size : w.heap.size + 1 ≤ W.heap.size
  rol : rolP W (· < B) [vn, vm] r
  base : B ≤ W.heap.size
section
variable {w W W' : World} {B : Nat} {vn vm : Value} {r : Rols}
theorem OpenR.start (h : rolP w (· < B) [vn, vm] r) (hB : B ≤ w.heap.size) : OpenR w B vn vm r (w.alloc (.cells #[vn, vm] 25)) :=
  ⟨heap_alloc_new w _, (Below.refl _ w).alloc (Nat.le_refl _) _, Nat.le_of_eq (size_box w _).symm, rol_keep h (fun _ h => h) (keeps_alloc w B _), Nat.le_trans hB (by have := size_box w (.cells #[vn, vm] 25); omega)⟩
theorem OpenR.on (h : OpenR w B vn vm r W) (hb : Below W.heap.size W W') : OpenR w B vn vm r W' := by
  have hs := h.size
  have hz := hb.size
  have hB := h.base
  exact ⟨(hb.block _ (by omega)).trans h.box, h.below.trans (hb.mono (by omega)), by omega, rol_keep h.rol (fun _ h => h) (Keeps.of_below hb fun k hk => Nat.lt_of_lt_of_le hk hB), by omega⟩
theorem OpenR.c0 (h : OpenR w B vn vm r W) : W.cell? ⟨w.heap.size, 0, none⟩ = some vn := box_at h.box 0 rfl
theorem OpenR.c1 (h : OpenR w B vn vm r W) : W.cell? ⟨w.heap.size, 1, none⟩ = some vm := box_at h.box 1 rfl
theorem rol_form {S : Nat → Prop} (h : rolP w S [vn, vm] r) : ∃ na nn nc ma mn mc, vn = .slice na nn nc ∧ vm = .slice ma mn mc ∧ r.names.length = nn ∧ r.mems.length = mn ∧ nn ≤ nc ∧ mn ≤ mc ∧ nc ≤ maxLen ∧ mc ≤ maxLen ∧ Lst w S strP 1 vn r.names ∧ Lst w S memP 2 vm r.mems := by
  obtain ⟨_, _, hv, hn, hm⟩ := h
  simp only [List.cons.injEq, and_true] at hv
  obtain ⟨rfl, rfl⟩ := hv
  obtain ⟨na, nc, h1, h2, h3⟩ := hn.form
  obtain ⟨ma, mc, h4, h5, h6⟩ := hm.form
  exact ⟨na, _, nc, ma, _, mc, h1, h4, rfl, rfl, h2, h5, h3, h6, hn, hm⟩
end
theorem mmsB_in {r : Rols} (h : mmsB r = true) : ∀ m ∈ r.mems, m.role ∈ r.names := fun m hm => by
  unfold mmsB at h
  rw [Bool.and_eq_true, List.all_eq_true] at h
  have := h.1 m hm
  rw [Bool.and_eq_true, inB_iff, inB_iff] at this
  exact this.1

set_option maxRecDepth 100000 in
set_option maxHeartbeats 4000000 in
theorem prog_rcheck_any (B : Nat) (vn vm : Value) (r : Rols) (w : World) (h : rolP w (· < B) [vn, vm] r) (hB : B ≤ w.heap.size) (hs : smallR 3000 r) (hsh : shortR r) :
    Calls Try.prog 10 #[.agg #[vn, vm]] w fun e w' => e = .returned (.int .i64 (okR r)) ∧ Below w.heap.size w w' := by
  have hO := OpenR.start h hB
  have hri := rightR_is r
  obtain ⟨na, nn, nc, ma, mn, mc, rfl, rfl, hnn, hmn, _, _, _, _, hn, hm⟩ := rol_form h
  have HN := Lib.hid (fun W (ho : OpenR w B (.slice na nn nc) (.slice ma mn mc) r W) => prog_names_any B na nn nc r.names W (rol_form ho.rol).choose_spec.choose_spec.choose_spec.choose_spec.choose_spec.choose_spec.2.2.2.2.2.2.2.2.1 ho.base)
  have HM := Lib.hid (fun W (ho : OpenR w B (.slice na nn nc) (.slice ma mn mc) r W) => prog_mems_any B _ _ r W ho.rol ho.base)
  have HR := Lib.hid (fun W (ho : OpenR w B (.slice na nn nc) (.slice ma mn mc) r W) hin => prog_ring_any B _ _ r W ho.rol ho.base hs hsh hin)
  have HO := Lib.hid hO
  have b0 := hO.c0
  have b1 := hO.c1
  clear h hn hm hs hsh hO hB hnn hmn
  go_enter Try.func10, Try.ntmps10
  go_wp2_with fail
  generalize World.alloc w _ = w0 at *
  refine (HN.out _ HO.out).mono ?_
  rintro e w1 ⟨rfl, g1⟩
  have ho1 := HO.out.on g1.below
  have c0 := ho1.c0
  have c1 := ho1.c1
  have HO1 := Lib.hid ho1
  clear ho1 g1 b0 b1
  cases h1 : nmsB r.names with
  | false =>
    have HF := Lib.hid (show okR r = 1 by unfold okR; rw [hri, h1]; rfl)
    clear hri
    go_wp2_with fail
    go_ret
    exact ⟨by rw [HF.out]; rfl, HO1.out.below⟩
  | true =>
    go_wp2_with fail
    refine (HM.out _ HO1.out).mono ?_
    rintro e w2 ⟨rfl, g2⟩
    have ho2 := HO1.out.on g2.below
    have d0 := ho2.c0
    have d1 := ho2.c1
    have HO2 := Lib.hid ho2
    clear ho2 g2 c0 c1
    cases h2 : mmsB r with
    | false =>
      have HF := Lib.hid (show okR r = 1 by unfold okR; rw [hri, h1, h2]; rfl)
      clear hri
      go_wp2_with fail
      go_ret
      exact ⟨by rw [HF.out]; rfl, HO2.out.below⟩
    | true =>
      have HI := Lib.hid (mmsB_in h2)
      go_wp2_with fail
      refine (HR.out _ HO2.out HI.out).mono ?_
      rintro e w3 ⟨rfl, g3⟩
      have HO3 := Lib.hid (HO2.out.on g3)
      clear g3 d0 d1
      cases h3 : cycB r.mems with
      | false =>
        have HF := Lib.hid (show okR r = 0 by unfold okR; rw [hri, h1, h2, h3]; rfl)
        clear hri
        go_wp2_with fail
        go_ret
        exact ⟨by rw [HF.out]; rfl, HO3.out.below⟩
      | true =>
        have HF := Lib.hid (show okR r = 1 by unfold okR; rw [hri, h1, h2, h3]; rfl)
        clear hri
        go_wp2_with fail
        go_ret
        exact ⟨by rw [HF.out]; rfl, HO3.out.below⟩

set_option maxRecDepth 100000 in
set_option maxHeartbeats 4000000 in
theorem prog_ris_any (B : Nat) (vn vm : Value) (r : Rols) (x y : ByteArray) (w : World) (h : rolP w (· < B) [vn, vm] r) (hB : B ≤ w.heap.size) (hs : smallR 3000 r) (hsh : shortR r) (hx : x.size ≤ maxLen) (hy : y.size ≤ maxLen) :
    Calls Try.prog 29 #[.agg #[vn, vm], .string x, .string y] w fun e w' => e = .returned (.bool (isR r x y)) ∧ Below w.heap.size w w' := by
  have hO := OpenR.start h hB
  obtain ⟨na, nn, nc, ma, mn, mc, rfl, rfl, hnn, hmn, _, _, _, _, hn, hm⟩ := rol_form h
  have HC := Lib.hid (fun W (ho : OpenR w B (.slice na nn nc) (.slice ma mn mc) r W) => prog_rcheck_any B _ _ r W ho.rol ho.base hs hsh)
  have HT := Lib.hid (fun W (ho : OpenR w B (.slice na nn nc) (.slice ma mn mc) r W) => prog_there_any B _ _ r x W ho.rol)
  have HI := Lib.hid (fun W (ho : OpenR w B (.slice na nn nc) (.slice ma mn mc) r W) => prog_is_any' B _ _ r x y W ho.rol ho.base hs hsh hx hy)
  have HO := Lib.hid hO
  have b0 := hO.c0
  have b1 := hO.c1
  clear h hn hm hs hsh hO hB hnn hmn
  go_enter Try.func29, Try.ntmps29
  go_wp2_with fail
  generalize World.alloc w _ = w0 at *
  refine (HC.out _ HO.out).mono ?_
  rintro e w1 ⟨rfl, g1⟩
  have ho1 := HO.out.on g1
  have c0 := ho1.c0
  have c1 := ho1.c1
  have HO1 := Lib.hid ho1
  clear ho1 g1 b0 b1
  have hok : okR r = if rightR r then 0 else 1 := rfl
  cases h1 : rightR r with
  | false =>
    have HF := Lib.hid (show isR r x y = false by unfold isR; rw [h1]; rfl)
    rw [h1] at hok
    rw [hok]
    clear hok
    go_wp2_with fail
    go_ret
    exact ⟨by rw [HF.out]; rfl, HO1.out.below⟩
  | true =>
    rw [h1] at hok
    rw [hok]
    clear hok
    go_wp2_with fail
    refine (HT.out _ HO1.out).mono ?_
    rintro e w2 ⟨rfl, g2⟩
    have ho2 := HO1.out.on g2.below
    have d0 := ho2.c0
    have d1 := ho2.c1
    have HO2 := Lib.hid ho2
    clear ho2 g2 c0 c1
    cases h2 : inB r.names x with
    | false =>
      have HF := Lib.hid (show isR r x y = false by unfold isR; rw [h1, h2]; rfl)
      go_wp2_with fail
      go_ret
      exact ⟨by rw [HF.out]; rfl, HO2.out.below⟩
    | true =>
      have HF := Lib.hid (show isR r x y = wayB r.mems x y by unfold isR; rw [h1, h2]; rfl)
      go_wp2_with fail
      refine (HI.out _ HO2.out).mono ?_
      rintro e w3 ⟨rfl, g3⟩
      have HO3 := Lib.hid (HO2.out.on g3)
      clear g3 d0 d1
      go_wp2_with fail
      go_ret
      exact ⟨by rw [HF.out]; rfl, HO3.out.below⟩
end Go.Proofs.Ytekhkmhpeefenaa
