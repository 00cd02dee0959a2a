/-
  Layer 8, the document's answer, by contract: All, Is.
-/
import Derived.Test.YtekhkmhpeefenaaRolI
namespace Go.Proofs.Ytekhkmhpeefenaa
set_option linter.unusedVariables false
open Go.RowKit Go.Sort Go.Shelf

/-- What All answers. -/
noncomputable def allF (r : Rols) (x : ByteArray) : List ByteArray × Int := if rightR r then if inB r.names x then (reachL r x, 0) else ([], 71) else ([], 1)
def AllPost (w : World) (p : List ByteArray × Int) (e : Ending) (w' : World) : Prop :=
  ∃ v, e = .returned (.tuple #[v, .int .i64 p.2]) ∧ OwnX strQ w' w.heap.size 9 1 v p.1 ∧ Below w.heap.size w w'

set_option maxRecDepth 100000 in
set_option maxHeartbeats 8000000 in
theorem ref_rall_any (B : Nat) (vn vm : Value) (r : Rols) (x : ByteArray) (w : World) (h : rolP w (· < B) [vn, vm] r) (hB : B ≤ w.heap.size) (hs : smallR 3000 r) :
    Calls Try.prog 26 #[.agg #[vn, vm], .string x] w (AllPost w (allF r x)) := by
  have hO := OpenR.start h hB
  obtain ⟨na, nn, nc, ma, mn, mc, rfl, rfl, hnn, hmn, hnc, hmc, hnc2, hmc2, hn, hm⟩ := rol_form h
  have HR := Lib.hid (fun W (ho : OpenR w B (.slice na nn nc) (.slice ma mn mc) r W) => ref_rright_any B r _ _ W ho.rol ho.base)
  have HRE := Lib.hid (fun W (ho : OpenR w B (.slice na nn nc) (.slice ma mn mc) r W) => ref_reach_any B _ _ r x W ho.rol ho.base hs)
  have HI := Lib.hid (fun W (ho : OpenR w B (.slice na nn nc) (.slice ma mn mc) r W) => ref_in_any na nn nc B r.names x W (by obtain ⟨_, _, hv, h, _⟩ := ho.rol; simp only [List.cons.injEq, and_true] at hv; obtain ⟨rfl, rfl⟩ := hv; exact h))
  have HO := Lib.hid hO
  have x0 := hO.c0
  have x1 := hO.c1
  clear h hn hm hs hO hnn hmn hB
  go_enter Try.func26, Try.ntmps26
  go_wp2_with fail
  generalize World.alloc w _ = w0 at *
  refine (HR.out _ HO.out).mono ?_
  rintro e w1 ⟨rfl, g1⟩
  have HO1 := Lib.hid (HO.out.on g1)
  clear g1 x0 x1
  cases h1 : rightR r with
  | false =>
    have HF := Lib.hid (show allF r x = ([], 1) by unfold allF; rw [h1]; rfl)
    go_wp2_with fail
    go_ret2
    rw [HF.out]
    exact ⟨_, rfl, OwnX.nil _ _ _ _ _, HO1.out.below⟩
  | true =>
    have x0 := HO1.out.c0
    have x1 := HO1.out.c1
    cases h2 : inB r.names x with
    | false =>
      have HF := Lib.hid (show allF r x = ([], 71) by unfold allF; rw [h1, h2]; rfl)
      have HI1 := Lib.hid (HI.out _ HO1.out)
      rw [h2] at HI1
      clear h1 h2
      go_wp2_with fail
      refine HI1.out.mono ?_
      rintro e w2 ⟨rfl, rfl⟩
      go_wp2_with fail
      go_ret2
      rw [HF.out]
      exact ⟨_, rfl, OwnX.nil _ _ _ _ _, HO1.out.below⟩
    | true =>
      have HF := Lib.hid (show allF r x = (reachL r x, 0) by unfold allF; rw [h1, h2]; rfl)
      have HI1 := Lib.hid (HI.out _ HO1.out)
      rw [h2] at HI1
      clear h1 h2
      go_wp2_with fail
      refine HI1.out.mono ?_
      rintro e w2 ⟨rfl, rfl⟩
      go_wp2_with fail
      refine (HRE.out _ HO1.out).mono ?_
      rintro e w3 ⟨v, rfl, hv, hb⟩
      obtain ⟨va, vc, rfl, _, _⟩ := id hv.form
      have HV := Lib.hid (And.intro (hv.mono str_stays HO1.out.below.size) (HO1.out.below.trans (hb.mono HO1.out.below.size)))
      clear hv hb
      go_wp2_with fail
      go_ret2
      rw [HF.out]
      exact ⟨_, rfl, HV.out.1, HV.out.2⟩

noncomputable def isF (r : Rols) (x y : ByteArray) : Bool := decide ((allF r x).2 = 0) && inB (allF r x).1 y
theorem isF_is (r : Rols) (x y : ByteArray) : isF r x y = isR r x y := by
  unfold isF allF
  have hb : ∀ a b : Bool, (a = true ↔ b = true) → a = b := fun a b h => by cases a <;> cases b <;> simp_all
  cases h1 : rightR r with
  | false => unfold isR; rw [h1]; simp
  | true =>
    cases h2 : inB r.names x with
    | false => unfold isR; rw [h1, h2]; simp
    | true =>
      unfold isR
      rw [h1, h2]
      simp only [if_true, decide_true, Bool.true_and]
      refine hb _ _ ?_
      rw [inB_iff]
      unfold reachL
      rw [List.mem_filter]
      refine ⟨fun h => h.2, fun h => ⟨?_, h⟩⟩
      rcases (wayB_iff.1 h).last with e | ⟨m, hm, e⟩
      · rw [e]; exact inB_iff.1 h2
      · rw [← e]; exact ((rightR_iff.1 h1).ends m hm).2

set_option maxRecDepth 100000 in
set_option maxHeartbeats 8000000 in
theorem ref_ris_any (B : Nat) (vn vm : Value) (r : Rols) (x y : ByteArray) (w : World) (h : rolP w (· < B) [vn, vm] r) (hB : B ≤ w.heap.size) (hs : smallR 3000 r) :
    Calls Try.prog 30 #[.agg #[vn, vm], .string x, .string y] w fun e w' => e = .returned (.bool (isR r x y)) ∧ Below w.heap.size w w' := by
  have hO := OpenR.start h hB
  obtain ⟨na, nn, nc, ma, mn, mc, rfl, rfl, hnn, hmn, hnc, hmc, hnc2, hmc2, hn, hm⟩ := rol_form h
  have HA := Lib.hid (fun W (ho : OpenR w B (.slice na nn nc) (.slice ma mn mc) r W) => ref_rall_any B _ _ r x W ho.rol ho.base hs)
  have HIN := Lib.hid (fun (W : World) (l : List ByteArray) (v : Value) (x : ByteArray) (B' : Nat) (h : OwnX strQ W B' 9 1 v l) => by
    obtain ⟨a, cap, hv, _, _, hl⟩ := h.str
    exact (by rw [hv]; exact ref_in_any a l.length cap W.heap.size l x W hl : Calls Try.prog 37 #[v, .string x] W fun e w' => e = .returned (.bool (inB l x)) ∧ W = w'))
  have HF := Lib.hid (isF_is r x y)
  have HO := Lib.hid hO
  have x0 := hO.c0
  have x1 := hO.c1
  clear h hn hm hs hO hnn hmn hB
  go_enter Try.func30, Try.ntmps30
  go_wp2_with fail
  generalize World.alloc w _ = w0 at *
  refine (HA.out _ HO.out).mono ?_
  rintro e w1 ⟨v, rfl, hv, g1⟩
  have HO1 := Lib.hid (HO.out.on g1)
  have HI := Lib.hid (HIN.out _ _ _ y _ hv)
  have hf : isF r x y = (decide ((allF r x).2 = 0) && inB (allF r x).1 y) := rfl
  rw [HF.out] at hf
  clear g1 hv
  generalize (allF r x).2 = c at *
  generalize inB (allF r x).1 y = q at *
  by_cases hc : c = 0
  · have HG := Lib.hid (show isR r x y = q by rw [hf, decide_eq_true hc]; rfl)
    subst hc
    clear hf
    go_wp2_with fail
    refine HI.out.mono ?_
    rintro e w2 ⟨rfl, rfl⟩
    go_wp2_with fail
    go_ret
    exact ⟨by rw [HG.out]; rfl, HO1.out.below⟩
  · have HG := Lib.hid (show isR r x y = false by rw [hf, decide_eq_false hc]; rfl)
    have hc2 : (c == 0) = false := by simpa using hc
    clear hf
    go_wp2_with fail
    go_ret
    exact ⟨by rw [HG.out]; rfl, HO1.out.below⟩
end Go.Proofs.Ytekhkmhpeefenaa
