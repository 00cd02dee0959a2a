/-
  Layer 8, the document's answer, by contract: Own.
-/
import Derived.Test.YtekhkmhpeefenaaRolF
import Derived.Test.YtekhkmhpeefenaaRolS
namespace Go.Proofs.Ytekhkmhpeefenaa
set_option linter.unusedVariables false
open Go.RowKit Go.Sort Go.Shelf

/-- Roles in memory of their own. -/
def OwnRPost (w : World) (r : Rols) (e : Ending) (w' : World) : Prop :=
  ∃ vn vm, e = .returned (.agg #[vn, vm]) ∧ OwnX strQ w' w.heap.size 9 1 vn r.names ∧ OwnX memQ w' w.heap.size 45 2 vm r.mems ∧ Below w.heap.size w w'
/-- .. they read as roles. -/
theorem rol_own {w : World} {B : Nat} {vn vm : Value} {r : Rols} (h1 : OwnX strQ w B 9 1 vn r.names) (h2 : OwnX memQ w B 45 2 vm r.mems) : rolP w (Sf B w) [vn, vm] r :=
  ⟨_, _, rfl, h1.lst str_stays, h2.lst mem_stays⟩
theorem OwnX.setRow {α : Type} {Q : Elem α} {w : World} {B : Nat} {e : TypeId} {sz : Nat} {v : Value} {l : List α} (h : OwnX Q w B e sz v l) (hQ : ∀ {w w' : World} {S S' : Nat → Prop} {x : List Value} {y : α}, Q w S x y → Q w' S' x y) {p : Nat} {cs cs' : Array Value} {t : TypeId} (hp : w.heap[p]? = some (.cells cs t (0, 0))) (he : e ≠ t) : OwnX Q (w.setRow p cs') B e sz v l :=
  h.move hQ (S := (· ≠ p)) ⟨rfl, rfl, rfl, by simp, fun j _ hj => setRow_other _ _ _ _ hj⟩ fun g hg => h.off hp he hg

set_option maxRecDepth 100000 in
set_option maxHeartbeats 8000000 in
theorem ref_rown_any (B : Nat) (vn vm : Value) (r : Rols) (w : World) (h : rolP w (· < B) [vn, vm] r) (hB : B ≤ w.heap.size) (hs : smallR 3000 r) :
    Calls Try.prog 13 #[.agg #[vn, vm]] w (OwnRPost w r) := by
  obtain ⟨is, si, sz0, sz1, sz2⟩ := info_parts strInfo
  obtain ⟨im, mi, mz0, mz1, mz2⟩ := info_parts memInfo
  obtain ⟨na, nn, nc, ma, mn, mc, rfl, rfl, hnn, hmn, hnc, hmc, hnc2, hmc2, hn, hm⟩ := rol_form h
  have hbw : Below w.heap.size w (((w.alloc (.cells #[.slice na nn nc, .slice ma mn mc] 25)).alloc (.cells #[.slice none 0 0, .slice none 0 0] 25)).alloc (.cells #[.slice none 0 0, .slice none 0 0] 25)) :=
    (((Below.refl _ w).alloc (Nat.le_refl _) _).alloc (by simp) _).alloc (by simp; omega) _
  have hr0 := heap_alloc_new w (.cells #[.slice na nn nc, .slice ma mn mc] 25)
  have hr1 := heap_alloc_new (w.alloc (.cells #[.slice na nn nc, .slice ma mn mc] 25)) (.cells #[.slice none 0 0, .slice none 0 0] 25)
  have hr2 := heap_alloc_new ((w.alloc (.cells #[.slice na nn nc, .slice ma mn mc] 25)).alloc (.cells #[.slice none 0 0, .slice none 0 0] 25)) (.cells #[.slice none 0 0, .slice none 0 0] 25)
  have e1 : (w.alloc (.cells #[.slice na nn nc, .slice ma mn mc] 25)).heap.size = w.heap.size + 1 := by simp
  have e2 : ((w.alloc (.cells #[.slice na nn nc, .slice ma mn mc] 25)).alloc (.cells #[.slice none 0 0, .slice none 0 0] 25)).heap.size = w.heap.size + 1 + 1 := by simp
  have e3 : (((w.alloc (.cells #[.slice na nn nc, .slice ma mn mc] 25)).alloc (.cells #[.slice none 0 0, .slice none 0 0] 25)).alloc (.cells #[.slice none 0 0, .slice none 0 0] 25)).heap.size = w.heap.size + 1 + 1 + 1 := by simp
  rw [e1] at hr1
  rw [e2] at hr2
  have q0 := (Below.heap_alloc _ (.cells #[.slice none 0 0, .slice none 0 0] 25) _ (by rw [e2]; omega)).trans ((Below.heap_alloc _ (.cells #[.slice none 0 0, .slice none 0 0] 25) _ (by rw [e1]; omega)).trans hr0)
  have q1 := (Below.heap_alloc _ (.cells #[.slice none 0 0, .slice none 0 0] 25) _ (by rw [e2]; omega)).trans hr1
  have HQ0 := Lib.hid q0; have HQ1 := Lib.hid q1; have HQ2 := Lib.hid hr2; have HE := Lib.hid e3; have HBW := Lib.hid hbw
  have HN := Lib.hid (strs_keep hn (fun _ h => h) (Keeps.of_below hbw (S := (· < B)) fun k hk => Nat.lt_of_lt_of_le hk hB))
  have HM := Lib.hid (fun W (hW : Below w.heap.size w W) => mems_keep hm (fun _ h => h) (Keeps.of_below hW (S := (· < B)) fun k hk => Nat.lt_of_lt_of_le hk hB))
  have HBN := Lib.hid (show (nn + nn / 4 + 192) * 16 ≤ 281474976710656 by have := hs.1; omega)
  have HBM := Lib.hid (show (mn + mn / 4 + 192) * 32 ≤ 281474976710656 by have := hs.2; omega)
  have HNN := Lib.hid hnn; have HMN := Lib.hid hmn
  have HI : Hid ((Try.prog.info? 25).map (·.size) = some 2) := Lib.hid (by kernel_rfl)
  clear h hn hm hbw hr0 hr1 hr2 e1 e2 e3 q0 q1 hnn hmn hs hB
  go_enter Try.func13, Try.ntmps13
  go_wp2_with (at_builtin; refine wpList_append_all rfl _ _ 22 rfl 9 is _ 1 16 Try.underlying22 si sz0 sz1 sz2 rfl (by decide) rfl (S := (· < B)) str_stays (fun h => h) rfl HN.out HBN.out ?_)
  generalize World.alloc (World.alloc (World.alloc w _) _) _ = w0 at *
  intro v3 w3 hv3 hb3
  rw [← HE.out] at hv3 hb3
  have hbW := below_on HBW.out (Nat.le_refl _) hb3
  have y0 := (hb3.block w.heap.size (lt_of_block HQ0.out)).trans HQ0.out
  have y1 := (hb3.block (w.heap.size + 1) (lt_of_block HQ1.out)).trans HQ1.out
  have y2 := (hb3.block (w.heap.size + 1 + 1) (lt_of_block HQ2.out)).trans HQ2.out
  obtain ⟨va, vcap, rfl, _, _⟩ := hv3.form
  rw [HNN.out] at hv3 ⊢
  have x2z := frozen_of_row _ (w.heap.size + 1 + 1) 0 _ _ y2
  have x20 := box_at y2 0 rfl
  have hk4 : Keeps (· ≠ w.heap.size + 1 + 1) w3 (w3.setCell ⟨w.heap.size + 1 + 1, 0, none⟩ (.slice va nn vcap)) := Keeps.refl.setCell (by simp) _
  have hr4 := heap_setCell_same w3 (w.heap.size + 1 + 1) 0 _ _ (.slice va nn vcap) y2
  have hv4 := hv3.move (fun h => h) hk4 fun g hg => hv3.off y2 (by decide) hg
  have z0 := hk4.row y0 (by omega)
  have z1 := hk4.row y1 (by omega)
  have hb4 : Below w.heap.size w (w3.setCell ⟨w.heap.size + 1 + 1, 0, none⟩ (.slice va nn vcap)) := hbW.trans (hk4.below hbW.size fun j hj => by omega)
  have HZ0 := Lib.hid z0; have HZ1 := Lib.hid z1; have HR4 := Lib.hid hr4; have HV4 := Lib.hid hv4; have HB4 := Lib.hid hb4
  have HM4 := Lib.hid (HM.out _ hb4)
  have d1 := box_at z0 1 rfl
  have f1 := box_at hr4 1 rfl
  have HS4 := Lib.hid (show (w3.setCell ⟨w.heap.size + 1 + 1, 0, none⟩ (.slice va nn vcap)).heap.size = w3.heap.size by simp [World.setCell])
  have HL0 := Lib.hid (show w.heap.size ≤ w0.heap.size by have := HE.out; omega)
  clear hv3 hb3 hbW y0 y1 y2 hk4 hr4 hv4 z0 z1 hb4 HQ0 HQ1 HQ2
  go_wp2_with (at_builtin; refine wpList_append_all rfl _ _ 23 rfl 45 im _ 2 32 Try.underlying23 mi mz0 mz1 mz2 rfl (by decide) rfl (S := (· < B)) mem_stays (fun h => h) rfl HM4.out HBM.out ?_)
  clear x2z x20
  generalize World.setCell w3 _ _ = w4 at *
  intro v5 w5 hv5 hb5
  rw [← HS4.out] at hv5 hb5
  have hbW := below_on HB4.out (Nat.le_refl _) hb5
  have y1 := (hb5.block (w.heap.size + 1) (lt_of_block HZ1.out)).trans HZ1.out
  have y2 := (hb5.block (w.heap.size + 1 + 1) (lt_of_block HR4.out)).trans HR4.out
  obtain ⟨ua, ucap, rfl, _, _⟩ := hv5.form
  rw [HMN.out] at hv5 ⊢
  have hn5 := HV4.out.below str_stays hb5
  have g1z := frozen_of_row _ (w.heap.size + 1 + 1) 1 _ _ y2
  have g11 := box_at y2 1 rfl
  have hk6 : Keeps (· ≠ w.heap.size + 1 + 1) w5 (w5.setCell ⟨w.heap.size + 1 + 1, 1, none⟩ (.slice ua mn ucap)) := Keeps.refl.setCell (by simp) _
  have hr6 := heap_setCell_same w5 (w.heap.size + 1 + 1) 1 _ _ (.slice ua mn ucap) y2
  have hm6 := hv5.move (fun h => h) hk6 fun g hg => hv5.off y2 (by decide) hg
  have hn6 := hn5.move (fun h => h) hk6 fun g hg => hn5.off y2 (by decide) hg
  have z1 := hk6.row y1 (by omega)
  have hb6 : Below w.heap.size w (w5.setCell ⟨w.heap.size + 1 + 1, 1, none⟩ (.slice ua mn ucap)) := hbW.trans (hk6.below hbW.size fun j hj => by omega)
  have k0 := box_at hr6 0 rfl
  have k1 := box_at hr6 1 rfl
  have HZ6 := Lib.hid z1
  have hB1 : w.heap.size ≤ w4.heap.size := HB4.out.size
  have HM6 := Lib.hid (hm6.mono mem_stays hB1); have HN6 := Lib.hid (hn6.mono str_stays HL0.out); have HB6 := Lib.hid hb6
  have HO : Hid ((#[.slice va nn vcap, .slice ua mn ucap] : Array Value).all (·.oneCell') = true) := Lib.hid (by kernel_rfl)
  have HROW := Lib.hid (setRow_heap _ _ _ #[.slice va nn vcap, .slice ua mn ucap] _ _ z1)
  clear hv5 hb5 hbW y1 y2 hn5 hk6 hr6 hm6 hn6 z1 hb6 hB1
  go_wp2_with (refine wpList_store_box rfl 25 _ _ rfl (w.heap.size + 1) 25 _ #[.slice va nn vcap, .slice ua mn ucap] rfl rfl HZ6.out HI.out rfl HO.out ?_)
  refine bodyPost_ret (results_cell_row rfl _ _ (w.heap.size + 1) _ _ (0, 0) _ rfl HROW.out Try.underlying25 rfl HI.out) rfl ?_
  have hkR : Keeps (· ≠ w.heap.size + 1) (w5.setCell ⟨w.heap.size + 1 + 1, 1, none⟩ (.slice ua mn ucap)) ((w5.setCell ⟨w.heap.size + 1 + 1, 1, none⟩ (.slice ua mn ucap)).setRow (w.heap.size + 1) #[.slice va nn vcap, .slice ua mn ucap]) := ⟨rfl, rfl, rfl, by simp, fun j _ hj => setRow_other _ _ _ _ hj⟩
  exact ⟨_, _, rfl, HN6.out.setRow (fun h => h) HZ6.out (by decide), HM6.out.setRow (fun h => h) HZ6.out (by decide), HB6.out.trans (hkR.below HB6.out.size fun j hj => by omega)⟩
end Go.Proofs.Ytekhkmhpeefenaa
