/-
  Layer 8's law: checks, RolesChecks.
-/
import Derived.Test.YtekhkmhpeefenaaLaw08a
import Derived.Test.YtekhkmhpeefenaaRolI
import Derived.Test.YtekhkmhpeefenaaRolS
namespace Go.Proofs.Ytekhkmhpeefenaa
set_option linter.unusedVariables false
open Go.RowKit Go.Sort Go.Shelf

/-- R with a way back from c to a. -/
def docB : Rols := ⟨docR.names, docR.mems ++ [⟨⟨#[99]⟩, ⟨#[97]⟩⟩]⟩
theorem docB_wrong : rightR docB = false := by
  cases h : rightR docB with
  | false => rfl
  | true =>
    refine absurd ?_ (rightR_iff.1 h).noring
    exact ⟨⟨⟨#[97]⟩, ⟨#[98]⟩⟩, by decide +kernel, .step (b := ⟨#[99]⟩) (by decide +kernel) (.step (b := ⟨#[97]⟩) (by decide +kernel) (.refl _))⟩
theorem docB_small : smallR 3000 docB := ⟨by decide, by decide⟩
theorem docB_short : shortR docB := by
  have h : ∀ n : ByteArray, n.size ≤ 1 → n.size ≤ maxLen := fun n h => by unfold maxLen; omega
  exact ⟨fun n hn => h n ((by decide +kernel : ∀ n ∈ docB.names, n.size ≤ 1) n hn), fun m hm => ⟨h _ ((by decide +kernel : ∀ m ∈ docB.mems, m.role.size ≤ 1) m hm), h _ ((by decide +kernel : ∀ m ∈ docB.mems, m.of.size ≤ 1) m hm)⟩⟩
set_option maxRecDepth 100000 in
set_option maxHeartbeats 4000000 in
theorem law08_one_is (w : World) : Calls Try.prog 35 #[] w fun e w' => e = .returned (.agg #[.slice (some ⟨w.heap.size + 1, 0, none⟩) 3 3, .slice (some ⟨w.heap.size + 1 + 1, 0, none⟩) 2 2]) ∧ w' = grow w (docRs w.heap.size) := by
  have HI : Hid ((Try.prog.info? 25).map (·.size) = some 2) := Lib.hid (by kernel_rfl)
  have HR := Lib.hid (grow_at w (docRs w.heap.size) 0 (show 0 < 3 by omega))
  go_enter Try.func35, Try.ntmps35
  go_wp2_with fail
  have hW : ∀ a b c : Obj, (((w.alloc a).alloc b).alloc c) = grow w #[a, b, c] := fun a b c => by simp [alloc_eq_grow, grow_grow]
  rw [hW]
  refine bodyPost_ret (results_cell_row rfl _ _ w.heap.size _ _ (0, 0) _ rfl HR.out Try.underlying25 rfl HI.out) rfl ?_
  exact ⟨rfl, rfl⟩
theorem lit_mem (w : World) (m : Mem) : Lst (w.alloc (.cells #[.string m.role, .string m.of] 45)) (fun _ => True) memP 2 (.slice (some ⟨w.heap.size, 0, none⟩) 1 1) [m] :=
  Lst.row [[.string m.role, .string m.of]] (heap_alloc_new w _) (by simp) trivial rfl rfl (by unfold maxLen; omega) fun i z y hz hy => by
    cases i with
    | zero => simp at hz hy; subst hz hy; rfl
    | succ i => simp at hz

set_option maxRecDepth 100000 in
set_option maxHeartbeats 4000000 in
theorem law08_checks_any (w : World) : Calls Try.prog 11 #[] w fun e w' => e = .returned (.bool true) ∧ Below w.heap.size w w' := by
  obtain ⟨im, mi, mi0, mi1, mi2⟩ := info_parts memInfo
  have hrow1 := grow_at w (docRs w.heap.size) 1 (show 1 < 3 by omega)
  have hrow2 := grow_at w (docRs w.heap.size) 2 (show 2 < 3 by omega)
  have hbel := (Gr.grown w 0 (docRs w.heap.size)).below
  have hsz : (grow w (docRs w.heap.size)).heap.size = w.heap.size + 3 := by rw [size_grow]; rfl
  have HO := Lib.hid (law08_one_is w)
  obtain ⟨w1, hw1⟩ : ∃ w1, w1 = grow w (docRs w.heap.size) := ⟨_, rfl⟩
  rw [← hw1] at hrow1 hrow2 hsz HO
  have hbel1 : Below w.heap.size w w1 := by rw [hw1]; exact hbel
  obtain ⟨p, hp⟩ : ∃ p, w.heap.size = p := ⟨_, rfl⟩
  have HHH := Lib.hid hp
  rw [hp] at hrow1 hrow2 hsz HO hbel1
  clear hw1 hbel
  have hn1 : ∀ (W : World), Below w1.heap.size w1 W → rolP W (· < w1.heap.size) [.slice (some ⟨p + 1, 0, none⟩) 3 3, .slice (some ⟨p + 1 + 1, 0, none⟩) 2 2] docR := fun W hW => by
    refine ⟨_, _, rfl, Lst.row [[.string ⟨#[97]⟩], [.string ⟨#[98]⟩], [.string ⟨#[99]⟩]] ((hW.block (p + 1) (by omega)).trans hrow1) (by simp) (by omega) rfl rfl (by unfold maxLen; omega) ?_, Lst.row [[.string ⟨#[97]⟩, .string ⟨#[98]⟩], [.string ⟨#[98]⟩, .string ⟨#[99]⟩]] ((hW.block (p + 2) (by omega)).trans hrow2) (by simp) (by omega) rfl rfl (by unfold maxLen; omega) ?_⟩
    · intro i x y hx hy
      match i, hx, hy with
      | 0, hx, hy => cases hx; cases hy; rfl
      | 1, hx, hy => cases hx; cases hy; rfl
      | 2, hx, hy => cases hx; cases hy; rfl
      | i + 3, hx, _ => simp at hx
    · intro i x y hx hy
      match i, hx, hy with
      | 0, hx, hy => cases hx; cases hy; rfl
      | 1, hx, hy => cases hx; cases hy; rfl
      | i + 2, hx, _ => simp at hx
  have hm1 : ∀ (W : World), Below w1.heap.size w1 W → OwnX memQ W p 45 2 (.slice (some ⟨p + 1 + 1, 0, none⟩) 2 2) docR.mems := fun W hW => by
    refine ⟨[[.string ⟨#[97]⟩, .string ⟨#[98]⟩], [.string ⟨#[98]⟩, .string ⟨#[99]⟩]], ⟨rfl, .inr ⟨p + 1 + 1, 2, _, rfl, by omega, (hW.block (p + 2) (by omega)).trans hrow2, Nat.le_refl _, by unfold maxLen; omega, rfl, rfl⟩⟩, rfl, ?_⟩
    intro i x y hx hy
    match i, hx, hy with
    | 0, hx, hy => cases hx; cases hy; rfl
    | 1, hx, hy => cases hx; cases hy; rfl
    | i + 2, hx, _ => simp at hx
  have hbox := heap_alloc_new w1 (.cells #[.slice (some ⟨p + 1, 0, none⟩) 3 3, .slice (some ⟨p + 1 + 1, 0, none⟩) 2 2] 25)
  have hal := (Below.refl w1.heap.size w1).alloc (Nat.le_refl _) (.cells #[.slice (some ⟨p + 1, 0, none⟩) 3 3, .slice (some ⟨p + 1 + 1, 0, none⟩) 2 2] 25)
  have hal1 := size_box w1 (.cells #[.slice (some ⟨p + 1, 0, none⟩) 3 3, .slice (some ⟨p + 1 + 1, 0, none⟩) 2 2] 25)
  have HC1 := Lib.hid (prog_rcheck_any w1.heap.size _ _ docR _ (hn1 _ hal) hal.size docR_small docR_short)
  have HW1 := Lib.hid hrow1; have HM1 := Lib.hid hm1; have HAL := Lib.hid hal; have HSZ := Lib.hid hsz; have HBEL := Lib.hid hbel1; have HBX := Lib.hid hbox; have HAL1 := Lib.hid hal1
  have hok : okR docR = 0 := by unfold okR; rw [docR_rightR]; rfl
  rw [hok] at HC1
  have b0 := box_at hbox 0 rfl
  have b1 := box_at hbox 1 rfl
  clear hrow1 hrow2 hn1 hm1 hal hsz hbel1 hok hbox hal1 hp
  go_enter Try.func11, Try.ntmps11
  go_wp2_with fail
  refine HO.out.mono ?_
  rintro e w' ⟨rfl, rfl⟩
  go_wp2_with fail
  generalize World.alloc w' _ = w2 at *
  refine HC1.out.mono ?_
  rintro e w3 ⟨rfl, hb3⟩
  have hb3' : Below w'.heap.size w' w3 := HAL.out.trans (hb3.mono HAL.out.size)
  have hq2 : p + 3 = w'.heap.size := HSZ.out.symm
  have hr3 := (hb3.block w'.heap.size (by have := HAL1.out; omega)).trans HBX.out
  have d0 := box_at hr3 0 rfl
  have d1 := box_at hr3 1 rfl
  have hal4 := (Below.refl w3.heap.size w3).alloc (Nat.le_refl _) (.cells #[.string ⟨#[99]⟩, .string ⟨#[97]⟩] 45)
  have hb4 := below_on hb3' (Nat.le_refl _) hal4
  have hr4 := (hal4.block w'.heap.size (lt_of_block hr3)).trans hr3
  have HX4 := Lib.hid (HM1.out _ hb4)
  have HLIT := Lib.hid (lit_mem w3 ⟨⟨#[99]⟩, ⟨#[97]⟩⟩)
  have HZ4 := Lib.hid (show p ≤ (w3.alloc (.cells #[.string ⟨#[99]⟩, .string ⟨#[97]⟩] 45)).heap.size by have := hb4.size; omega)
  have HM4 := Lib.hid (show docR.mems.length + 1 ≤ maxLen by unfold maxLen; decide)
  have HBY4 : Hid (((docR.mems.length + 1) + (docR.mems.length + 1) / 4 + 192) * 32 ≤ 281474976710656) := Lib.hid (by decide)
  have HR4 := Lib.hid hr4; have HB4 := Lib.hid hb4; have HQ2 := Lib.hid hq2
  clear hb3 hb3' hr3 hal4 hb4 hr4 hq2
  go_wp2_with (at_builtin; refine wpList_append_flat rfl _ _ 23 rfl p 45 im _ 2 32 Try.underlying23 mi mi0 mi1 mi2 rfl (by decide) mem_stays (fun h => h) rfl HX4.out rfl HLIT.out HM4.out HBY4.out HZ4.out ?_)
  intro v5 w5 hx5 hb5 hk5
  have hx5' : OwnX memQ w5 p 45 2 v5 docB.mems := hx5
  obtain ⟨a5, cap5, hv5, _, _⟩ := hx5'.form
  have hv5' : v5 = .slice a5 3 cap5 := hv5
  subst hv5'
  clear hx5 hv5
  have hq2 := HQ2.out
  have hne : ∀ k, k < p + 1 + 1 ∨ k = w'.heap.size → (Value.slice (some ⟨p + 1 + 1, 0, none⟩) 2 2).ownBlock ≠ some k := fun k hk => by
    show ¬ some (p + 1 + 1) = some k
    simp
    omega
  have hr5 := hk5.row HR4.out (hne _ (.inr rfl))
  have hn5 := hk5.row ((HB4.out.block (p + 1) (by omega)).trans HW1.out) (hne _ (.inl (by omega)))
  have g0 := box_at hr5 0 rfl
  have g1 := box_at hr5 1 rfl
  have z1 := frozen_of_row w5 w'.heap.size 1 _ _ hr5
  have hk6 : Keeps (· ≠ w'.heap.size) w5 (w5.setCell ⟨w'.heap.size, 1, none⟩ (.slice a5 3 cap5)) := Keeps.refl.setCell (by simp) _
  have hr6 := heap_setCell_same w5 w'.heap.size 1 _ _ (.slice a5 3 cap5) hr5
  have hn6 := hk6.row hn5 (by omega)
  have hx6 := hx5'.move (fun h => h) hk6 fun g hg => hx5'.off hr5 (by decide) hg
  have hb6 : Below w.heap.size w (w5.setCell ⟨w'.heap.size, 1, none⟩ (.slice a5 3 cap5)) := by
    rw [HHH.out]
    exact ((HBEL.out.trans (HB4.out.mono (by omega))).trans hb5).trans (hk6.below (by have := hb5.size; have := HB4.out.size; omega) fun k hk => by omega)
  have h0 := box_at hr6 0 rfl
  have h1 := box_at hr6 1 rfl
  have HB6 := Lib.hid hb6
  have hs5 : w'.heap.size ≤ w5.heap.size := Nat.le_trans HB4.out.size hk5.size
  clear hr5 hn5 hk5 hx5' hb5 hne hr6 hb6
  have hs6 := hk6.size
  generalize hw6 : World.setCell w5 _ _ = w6 at *
  have HW6 := Lib.hid hw6
  clear hw6
  have hrol : rolP w6 (· < w6.heap.size) [.slice (some ⟨p + 1, 0, none⟩) 3 3, .slice a5 3 cap5] docB :=
    ⟨_, _, rfl, Lst.row [[.string ⟨#[97]⟩], [.string ⟨#[98]⟩], [.string ⟨#[99]⟩]] hn6 (by simp) (by omega) rfl rfl (by unfold maxLen; omega) (fun i x y hx hy => by
      match i, hx, hy with
      | 0, hx, hy => cases hx; cases hy; rfl
      | 1, hx, hy => cases hx; cases hy; rfl
      | 2, hx, hy => cases hx; cases hy; rfl
      | i + 3, hx, _ => simp at hx), (hx6.lst mem_stays).keep (fun k hk => hk.lt) Keeps.refl fun _ _ _ h => h⟩
  have HC2 := Lib.hid (prog_rcheck_any w6.heap.size _ _ docB w6 hrol (Nat.le_refl _) docB_small docB_short)
  have hok : okR docB = 1 := by unfold okR; rw [docB_wrong]; rfl
  rw [hok] at HC2
  clear hrol hok hx6 hn6 hk6
  go_wp2_with fail
  rw [HW6.out]
  go_wp2_with fail
  refine HC2.out.mono ?_
  rintro e w7 ⟨rfl, hb7⟩
  have HF := Lib.hid (below_on HB6.out (Nat.le_refl _) hb7)
  clear hb7
  go_wp2_with fail
  go_ret
  exact ⟨rfl, HF.out⟩
end Go.Proofs.Ytekhkmhpeefenaa
