/-
  Layer 8's law: joins.
-/
import Derived.Test.YtekhkmhpeefenaaRolT
namespace Go.Proofs.Ytekhkmhpeefenaa
set_option linter.unusedVariables false
open Go.RowKit Go.Sort Go.Shelf

def docJ : List Mem := [⟨⟨#[97]⟩, ⟨#[98]⟩⟩, ⟨⟨#[97]⟩, ⟨#[99]⟩⟩, ⟨⟨#[98]⟩, ⟨#[99]⟩⟩]
theorem docR_join : joinF docR ⟨#[97]⟩ ⟨#[99]⟩ = (⟨docR.names, docJ⟩, 0) := by
  unfold joinF
  rw [if_neg (by rw [docR_rightR]; simp), if_neg (by decide +kernel), if_neg (by decide +kernel), if_neg (by
    rw [wayB_no.2 (not_way [⟨#[99]⟩] (by decide +kernel) (by decide +kernel) (by decide +kernel))]; simp)]
  rw [show insBy ltM ⟨⟨#[97]⟩, ⟨#[99]⟩⟩ docR.mems = docJ by decide +kernel]
theorem docR_ring' : joinF docR ⟨#[99]⟩ ⟨#[97]⟩ = (noR, 72) := by
  unfold joinF
  rw [if_neg (by rw [docR_rightR]; simp), if_neg (by decide +kernel), if_neg (by decide +kernel), if_pos (wayB_iff.2 (.step (b := ⟨#[98]⟩) (by decide +kernel) (.step (b := ⟨#[99]⟩) (by decide +kernel) (.refl _))))]
theorem docR_leave : leaveF docR ⟨#[97]⟩ ⟨#[98]⟩ = (⟨docR.names, [⟨⟨#[98]⟩, ⟨#[99]⟩⟩]⟩, 0) := by
  unfold leaveF
  rw [if_neg (by rw [docR_rightR]; simp), if_neg (by decide +kernel)]
  rw [show docR.mems.eraseIdx (memIx docR.mems ⟨⟨#[97]⟩, ⟨#[98]⟩⟩).toNat = [⟨⟨#[98]⟩, ⟨#[99]⟩⟩] by decide +kernel]

set_option maxRecDepth 100000 in
set_option maxHeartbeats 8000000 in
theorem law08_joins_any (w : World) : Calls Try.prog 24 #[] w fun e w' => e = .returned (.bool true) ∧ Below w.heap.size w w' := by
  have hs : ∀ n : ByteArray, n.size ≤ 1 → n.size ≤ maxLen := fun n h => by unfold maxLen; omega
  have HJ := Lib.hid (fun (x y : ByteArray) (hx : x.size ≤ 1) (hy : y.size ≤ 1) (W W' : World) (vn vm : Value) (h : rolP W' (Sf W.heap.size W') [vn, vm] docR) => prog_rjoin_any W'.heap.size vn vm docR x y W' (rol_keep h (fun _ h => h.lt) Keeps.refl) (Nat.le_refl _) docR_small docR_short (hs x hx) (hs y hy))
  have HV := Lib.hid (fun (x y : ByteArray) (W W' : World) (vn vm : Value) (h : rolP W' (Sf W.heap.size W') [vn, vm] docR) => prog_rleave_any W'.heap.size vn vm docR x y W' (rol_keep h (fun _ h => h.lt) Keeps.refl) (Nat.le_refl _) docR_small docR_short)
  have HO := Lib.hid law08_one_any
  clear hs
  go_enter Try.func24, Try.ntmps24
  go_wp2_with fail
  refine (HO.out w).mono ?_
  rintro e w1 ⟨vn, vm, rfl, ho, hb1⟩
  have hj := HJ.out ⟨#[97]⟩ ⟨#[99]⟩ (Nat.le_refl _) (Nat.le_refl _) w w1 vn vm ho
  rw [docR_join] at hj
  have HC1 := Lib.hid hj
  have HB1 := Lib.hid hb1
  clear ho hb1 hj
  go_wp2_with fail
  refine HC1.out.mono ?_
  rintro e w2 ⟨vn2, vm2, rfl, hn2, hm2, hb2⟩
  obtain ⟨a2, c2, hv2, _, _⟩ := id hn2.form
  obtain ⟨a3, c3, hv3, _, _⟩ := id hm2.form
  have hv2' : vn2 = .slice a2 3 c2 := hv2
  have hv3' : vm2 = .slice a3 3 c3 := hv3
  subst hv2' hv3'
  have hb2' := below_on HB1.out (Nat.le_refl _) hb2
  obtain ⟨g, q, z, rfl, hgS, hz, hcl⟩ := (hm2.lst mem_stays).at (k := 1) (by decide)
  have hz' : z = [.string ⟨#[97]⟩, .string ⟨#[99]⟩] := hz
  subst hz'
  have k3 : w2.cell? ⟨g, q + 2 + 1, none⟩ = some (.string ⟨#[99]⟩) := hcl 1 _ rfl
  have hgl := hgS.lt
  have hrow := heap_alloc_new w2 (.cells #[.slice a2 3 c2, .slice (some ⟨g, q, none⟩) 3 c3] 25)
  have hal := (Below.refl w2.heap.size w2).alloc (Nat.le_refl _) (.cells #[.slice a2 3 c2, .slice (some ⟨g, q, none⟩) 3 c3] 25)
  have hsz := size_box w2 (.cells #[.slice a2 3 c2, .slice (some ⟨g, q, none⟩) 3 c3] 25)
  have k3' := (hal.cell (p := ⟨g, q + 2 + 1, none⟩) hgl).trans k3
  have HB2 := Lib.hid (below_on hb2' (Nat.le_refl _) hal)
  have HROW := Lib.hid hrow; have HK3 := Lib.hid k3'; have HSZ := Lib.hid hsz
  clear hn2 hm2 hb2 hb2' hcl k3 hrow hal hsz k3' HC1 hv2 hv3 hz
  go_wp2_with fail
  generalize World.alloc w2 _ = w3 at *
  have hg3 := World.block_lt_of_cell? w3 _ HK3.out
  have hp3 := lt_of_block HROW.out
  refine (HO.out w3).mono ?_
  rintro e w4 ⟨vn', vm', rfl, ho, hb4⟩
  have hj := HJ.out ⟨#[99]⟩ ⟨#[97]⟩ (Nat.le_refl _) (Nat.le_refl _) w3 w4 vn' vm' ho
  rw [docR_ring'] at hj
  have HC2 := Lib.hid hj
  have HB4 := Lib.hid hb4
  clear ho hb4 hj
  go_wp2_with fail
  refine HC2.out.mono ?_
  rintro e w5 ⟨vn5, vm5, rfl, hn5, hm5, hb5⟩
  obtain ⟨a5, c5, rfl, _, _⟩ := id hn5.form
  obtain ⟨a6, c6, rfl, _, _⟩ := id hm5.form
  have hal := (Below.refl w5.heap.size w5).alloc (Nat.le_refl _) (.cells #[.slice a5 noR.names.length c5, .slice a6 noR.mems.length c6] 25)
  have HB5 := Lib.hid (below_on (below_on HB4.out (Nat.le_refl _) hb5) (Nat.le_refl _) hal)
  clear hn5 hm5 hb5 hal HC2 HB4
  generalize noR.names.length = n5 at *
  generalize noR.mems.length = n6 at *
  go_wp2_with fail
  generalize World.alloc w5 _ = w6 at *
  refine (HO.out w6).mono ?_
  rintro e w7 ⟨vn', vm', rfl, ho, hb7⟩
  have hj := HV.out ⟨#[97]⟩ ⟨#[98]⟩ w6 w7 vn' vm' ho
  rw [docR_leave] at hj
  have HC3 := Lib.hid hj
  have HB7 := Lib.hid (below_on HB5.out (Nat.le_refl _) hb7)
  clear ho hb7 hj
  go_wp2_with fail
  refine HC3.out.mono ?_
  rintro e w8 ⟨vn8, vm8, rfl, hn8, hm8, hb8⟩
  obtain ⟨a8, c8, hv8, _, _⟩ := id hn8.form
  obtain ⟨a9, c9, hv9, _, _⟩ := id hm8.form
  have hv8' : vn8 = .slice a8 3 c8 := hv8
  have hv9' : vm8 = .slice a9 1 c9 := hv9
  subst hv8' hv9'
  have hal := (Below.refl w8.heap.size w8).alloc (Nat.le_refl _) (.cells #[.slice a8 3 c8, .slice a9 1 c9] 25)
  have hbE := below_on (below_on HB7.out (Nat.le_refl _) hb8) (Nat.le_refl _) hal
  have r9 := heap_alloc_new w8 (.cells #[.slice a8 3 c8, .slice a9 1 c9] 25)
  have rx := (hbE.block w2.heap.size hp3).trans HROW.out
  have z0 := box_at r9 0 rfl
  have z1 := box_at r9 1 rfl
  have y0 := box_at rx 0 rfl
  have y1 := box_at rx 1 rfl
  have y3 := (hbE.cell (p := ⟨g, q + 2 + 1, none⟩) hg3).trans HK3.out
  have HF := Lib.hid (below_on HB2.out (Nat.le_refl _) hbE)
  clear hn8 hm8 hb8 hal hbE r9 rx hv8 hv9
  go_wp2_with fail
  go_ret
  exact ⟨rfl, HF.out⟩
end Go.Proofs.Ytekhkmhpeefenaa
