/-
  Layer 8's law: adds.
-/
import Derived.Test.YtekhkmhpeefenaaLaw08f
import Derived.Test.YtekhkmhpeefenaaRolY
namespace Go.Proofs.Ytekhkmhpeefenaa
set_option linter.unusedVariables false
open Go.RowKit Go.Sort Go.Shelf

def docN : List ByteArray := [⟨#[97]⟩, ⟨#[98]⟩, ⟨#[99]⟩, ⟨#[100]⟩]
theorem docR_add : addRF docR ⟨#[100]⟩ = (⟨docN, docR.mems⟩, 0) := by
  unfold addRF
  rw [if_neg (by rw [docR_rightR]; decide +kernel), if_neg (by decide +kernel), if_neg (by decide +kernel)]
  rw [show insBy ltT ⟨#[100]⟩ docR.names = docN by decide +kernel]
theorem docR_drop : dropRF docR ⟨#[98]⟩ = (noR, 73) := by
  unfold dropRF
  rw [if_neg (by rw [docR_rightR]; simp), if_neg (by decide +kernel), if_pos (by decide +kernel)]

set_option maxRecDepth 100000 in
set_option maxHeartbeats 8000000 in
theorem law08_adds_any (w : World) : Calls Try.prog 18 #[] w fun e w' => e = .returned (.bool true) ∧ Below w.heap.size w w' := by
  have hs : ∀ n : ByteArray, n.size ≤ 1 → n.size ≤ maxLen := fun n h => by unfold maxLen; omega
  have HJ := Lib.hid (fun (x : ByteArray) (hx : x.size ≤ 1) (W W' : World) (vn vm : Value) (h : rolP W' (Sf W.heap.size W') [vn, vm] docR) => prog_radd_any W'.heap.size vn vm docR x W' (rol_keep h (fun _ h => h.lt) Keeps.refl) (Nat.le_refl _) docR_small docR_short (hs x hx))
  have HV := Lib.hid (fun (x : ByteArray) (W W' : World) (vn vm : Value) (h : rolP W' (Sf W.heap.size W') [vn, vm] docR) => prog_rdrop_any W'.heap.size vn vm docR x W' (rol_keep h (fun _ h => h.lt) Keeps.refl) (Nat.le_refl _) docR_small docR_short)
  have HO := Lib.hid law08_one_any
  clear hs
  go_enter Try.func18, Try.ntmps18
  go_wp2_with fail
  refine (HO.out w).mono ?_
  rintro e w1 ⟨vn, vm, rfl, ho, hb1⟩
  have hj := HJ.out ⟨#[100]⟩ (Nat.le_refl _) w w1 vn vm ho
  rw [docR_add] at hj
  have HC1 := Lib.hid hj
  have HB1 := Lib.hid hb1
  clear ho hb1 hj
  go_wp2_with fail
  refine HC1.out.mono ?_
  rintro e w2 ⟨vn2, vm2, rfl, hn2, hm2, hb2⟩
  obtain ⟨a2, c2, hv2, _, _⟩ := id hn2.form
  obtain ⟨a3, c3, hv3, _, _⟩ := id hm2.form
  have hv2' : vn2 = .slice a2 4 c2 := hv2
  have hv3' : vm2 = .slice a3 2 c3 := hv3
  subst hv2' hv3'
  have hb2' := below_on HB1.out (Nat.le_refl _) hb2
  obtain ⟨g, q, z, rfl, hgS, hz, hcl⟩ := (hn2.lst str_stays).at (k := 3) (by decide)
  have hz' : z = [.string ⟨#[100]⟩] := hz
  subst hz'
  have k3 : w2.cell? ⟨g, q + 3, none⟩ = some (.string ⟨#[100]⟩) := by have := hcl 0 _ rfl; simpa using this
  have hgl := hgS.lt
  have hrow := heap_alloc_new w2 (.cells #[.slice (some ⟨g, q, none⟩) 4 c2, .slice a3 2 c3] 25)
  have hal := (Below.refl w2.heap.size w2).alloc (Nat.le_refl _) (.cells #[.slice (some ⟨g, q, none⟩) 4 c2, .slice a3 2 c3] 25)
  have k3' := (hal.cell (p := ⟨g, q + 3, none⟩) hgl).trans k3
  have HB2 := Lib.hid (below_on hb2' (Nat.le_refl _) hal)
  have HROW := Lib.hid hrow; have HK3 := Lib.hid k3'
  clear hn2 hm2 hb2 hb2' hcl k3 hrow hal k3' HC1 hv2 hv3 hz
  go_wp2_with fail
  generalize World.alloc w2 _ = w3 at *
  have hg3 := World.block_lt_of_cell? w3 _ HK3.out
  have hp3 := lt_of_block HROW.out
  refine (HO.out w3).mono ?_
  rintro e w4 ⟨vn', vm', rfl, ho, hb4⟩
  have hj := HV.out ⟨#[98]⟩ w3 w4 vn' vm' ho
  rw [docR_drop] at hj
  have HC2 := Lib.hid hj
  have HB4 := Lib.hid hb4
  clear ho hb4 hj
  go_wp2_with fail
  refine HC2.out.mono ?_
  rintro e w5 ⟨vn5, vm5, rfl, hn5, hm5, hb5⟩
  obtain ⟨a5, c5, rfl, _, _⟩ := id hn5.form
  obtain ⟨a6, c6, rfl, _, _⟩ := id hm5.form
  have hal := (Below.refl w5.heap.size w5).alloc (Nat.le_refl _) (.cells #[.slice a5 noR.names.length c5, .slice a6 noR.mems.length c6] 25)
  have hbE := below_on (below_on HB4.out (Nat.le_refl _) hb5) (Nat.le_refl _) hal
  have rx := (hbE.block w2.heap.size hp3).trans HROW.out
  have y0 := box_at rx 0 rfl
  have y1 := box_at rx 1 rfl
  have y3 := (hbE.cell (p := ⟨g, q + 3, none⟩) hg3).trans HK3.out
  have HF := Lib.hid (below_on HB2.out (Nat.le_refl _) hbE)
  clear hn5 hm5 hb5 hal hbE rx HC2 HB4
  generalize noR.names.length = n5 at *
  generalize noR.mems.length = n6 at *
  go_wp2_with fail
  go_ret
  exact ⟨rfl, HF.out⟩
end Go.Proofs.Ytekhkmhpeefenaa
