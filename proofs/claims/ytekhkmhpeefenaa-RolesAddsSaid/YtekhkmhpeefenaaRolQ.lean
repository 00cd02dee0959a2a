/-
  Layer 8, the program, by contract: Index and Contains of members; Join, Leave. (Made by wip/gen_rcalls.py.)
-/
import Derived.Test.YtekhkmhpeefenaaRolP
import Derived.Test.YtekhkmhpeefenaaRolF
import Derived.Test.YtekhkmhpeefenaaRolL
namespace Go.Proofs.Ytekhkmhpeefenaa
set_option linter.unusedVariables false
open Go.RowKit Go.Sort Go.Shelf

def memIx (l : List Mem) (x : Mem) : Int := idxI (fun y => decide (x = y)) l
set_option maxRecDepth 100000 in
set_option maxHeartbeats 4000000 in
theorem prog_memidx_any (B : Nat) (a : Option Addr) (n c : Nat) (l : List Mem) (x : Mem) (w : World) (h : Lst w (· < B) memP 2 (.slice a n c) l) (hB : B ≤ w.heap.size) :
    Calls Try.prog 56 #[.slice a n c, .agg #[.string x.role, .string x.of]] w fun e w' => e = .returned (.int .i64 (memIx l x)) ∧ Gr w w' := by
  have mixed := mixed_ok
  obtain ⟨hl, hc, hm⟩ := h.len
  unfold maxLen at hm
  have hg := Gr.alloc w (.cells #[.string x.role, .string x.of] 45)
  have hrow := heap_alloc_new w (.cells #[.string x.role, .string x.of] 45)
  have HL := Lib.hid hl; have HH := Lib.hid h; have HG := Lib.hid hg; have HROW := Lib.hid hrow
  clear h hl hg hrow
  go_enter Try.func56, Try.ntmps56
  go_wp2_with fail
  generalize World.alloc w _ = w0 at *
  go_loopw [5, 8] (fun _ i wr => ∃ k : Nat, k ≤ n ∧ i = .int .i64 k ∧ Hid (∀ y ∈ l.take k, decide (x = y) = false) ∧ Gr w0 wr) (fun _ i _ => n - (intOf i).toNat)
  case atStart => exact ⟨0, Nat.zero_le _, rfl, Lib.hid (by simp), Gr.refl _⟩
  case round =>
    obtain ⟨k, hk, rfl, hn, hgr⟩ := hrel
    have hwr := HG.out.trans hgr
    have hr := (hgr.below.block w.heap.size (lt_of_block HROW.out)).trans HROW.out
    by_cases hlt : k < n
    · have lk : k < l.length := by rw [HL.out]; exact hlt
      obtain ⟨b, o, z, rfl, hbB, hz, hcl⟩ := HH.out.at lk
      have hyes : decide (x = l[k]) = true → memIx l x = k := fun h => idxI_take lk hn.out h
      have hno := fun h => take_any_succ (p := fun y => decide (x = y)) lk hn.out h
      have k0 : (0 : Int) ≤ (k : Int) := by omega
      have k1 : (k : Int) < (n : Int) := by omega
      have hbl : b < w.heap.size := Nat.lt_of_lt_of_le hbB hB
      generalize l[k] = y at *
      obtain ⟨yr, yo⟩ := y
      obtain ⟨xr, xo⟩ := x
      obtain rfl : z = [.string yr, .string yo] := hz
      have c0 : ∀ n' os, (grow (wr.drewN n') os).cell? ⟨b, o + k * 2, none⟩ = _ := fun n' os => cell_grown (w := wr) (a := ⟨b, o + k * 2 + 0, none⟩) (Nat.lt_of_lt_of_le hbl hwr.below.size) ((hwr.below.cell (p := ⟨b, o + k * 2 + 0, none⟩) hbl).trans (hcl 0 _ rfl)) n' os
      have c1 := fun n' os => cell_grown (w := wr) (a := ⟨b, o + k * 2 + 1, none⟩) (Nat.lt_of_lt_of_le hbl hwr.below.size) ((hwr.below.cell (p := ⟨b, o + k * 2 + 1, none⟩) hbl).trans (hcl 1 _ rfl)) n' os
      have d0 := fun n' os => cell_grown (w := wr) (a := ⟨w.heap.size, 0, none⟩) (lt_of_block hr) (box_at hr 0 rfl) n' os
      have d1 := fun n' os => cell_grown (w := wr) (a := ⟨w.heap.size, 1, none⟩) (lt_of_block hr) (box_at hr 1 rfl) n' os
      have HKN := Lib.hid (show k + 1 ≤ n by omega)
      clear hcl hn hr
      simp only at d0 d1
      cases hq1 : eqT xr yr with
      | true =>
        have e1 : (xr.toList == yr.toList) = true := hq1
        cases hq2 : eqT xo yo with
        | true =>
          have e2 : (xo.toList == yo.toList) = true := hq2
          have HY := Lib.hid (hyes (decide_eq_true (by rw [eqT_iff.1 hq1, eqT_iff.1 hq2])))
          clear hyes hno hq1 hq2
          go_wp2_with fail
          refine Go.wp_region_quiet_grown mixed (by kernel_rfl) ?_
          repeat (go_big_quiet_step (fail))
          refine Go.wpQuiet_nil ?_
          intro _ hw'
          obtain ⟨⟨nq, osq⟩, hw''⟩ := hw'
          subst hw''
          go_wp2_with fail
          go_ret
          exact ⟨by rw [HY.out]; rfl, hwr.trans (Gr.grown _ _ _)⟩
        | false =>
          have e2 : (xo.toList == yo.toList) = false := hq2
          have HN := Lib.hid (hno (decide_eq_false (fun e => by cases e; exact eqT_no.1 hq2 rfl)))
          clear hyes hno hq1 hq2
          go_wp2_with fail
          refine Go.wp_region_quiet_grown mixed (by kernel_rfl) ?_
          repeat (go_big_quiet_step (fail))
          refine Go.wpQuiet_nil ?_
          intro _ hw'
          obtain ⟨⟨nq, osq⟩, hw''⟩ := hw'
          subst hw''
          go_wp2_with fail
          go_roundw
          case rel => exact ⟨k + 1, HKN.out, by go_num, HN, hgr.trans (Gr.grown _ _ _)⟩
          case measure => have := HKN.out; simp [intOf]; omega
      | false =>
        have e1 : (xr.toList == yr.toList) = false := hq1
        have HN := Lib.hid (hno (decide_eq_false (fun e => by cases e; exact eqT_no.1 hq1 rfl)))
        clear hyes hno hq1
        go_wp2_with fail
        refine Go.wp_region_quiet_grown mixed (by kernel_rfl) ?_
        repeat (go_big_quiet_step (fail))
        refine Go.wpQuiet_nil ?_
        intro _ hw'
        obtain ⟨⟨nq, osq⟩, hw''⟩ := hw'
        subst hw''
        go_wp2_with fail
        go_roundw
        case rel => exact ⟨k + 1, HKN.out, by go_num, HN, hgr.trans (Gr.grown _ _ _)⟩
        case measure => have := HKN.out; simp [intOf]; omega
    · have HF := Lib.hid (show memIx l x = -1 from idxI_all (by rw [HL.out]; omega) hn.out)
      go_wp2_with fail
      go_ret
      exact ⟨by rw [HF.out]; rfl, hwr⟩
def memIn (l : List Mem) (x : Mem) : Bool := decide (0 ≤ memIx l x)
theorem memIn_iff {l : List Mem} {x : Mem} : memIn l x = true ↔ x ∈ l := by
  unfold memIn
  rw [decide_eq_true_eq]
  constructor
  · intro h
    obtain ⟨k, hk⟩ : ∃ k : Nat, memIx l x = k := ⟨(memIx l x).toNat, by omega⟩
    obtain ⟨h1, h2, _⟩ := idxI_get hk
    rw [of_decide_eq_true h2]
    exact List.getElem_mem h1
  · intro h
    by_cases hi : memIx l x < 0
    · have := idxI_neg hi x h
      simp at this
    · omega
set_option maxRecDepth 100000 in
theorem prog_memin_any (B : Nat) (a : Option Addr) (n c : Nat) (l : List Mem) (x : Mem) (w : World) (h : Lst w (· < B) memP 2 (.slice a n c) l) (hB : B ≤ w.heap.size) :
    Calls Try.prog 50 #[.slice a n c, .agg #[.string x.role, .string x.of]] w fun e w' => e = .returned (.bool (memIn l x)) ∧ Gr w w' := by
  obtain ⟨b0, b1⟩ := box_two w (.string x.role) (.string x.of) 45
  have HG := Lib.hid (Gr.alloc w (.cells #[.string x.role, .string x.of] 45))
  have HI := Lib.hid (prog_memidx_any B a n c l x _ (mems_keep h (fun _ h => h) (keeps_alloc w B _)) (Nat.le_trans hB HG.out.below.size))
  have HE := Lib.hid (show memIn l x = decide (0 ≤ memIx l x) from rfl)
  clear h
  generalize memIx l x = q at *
  go_enter Try.func50, Try.ntmps50
  go_wp2_with fail
  refine HI.out.mono ?_
  rintro e w2 ⟨rfl, g2⟩
  go_wp2_with fail
  go_ret
  exact ⟨by rw [HE.out]; rfl, HG.out.trans g2⟩

/-- What a call that makes roles of roles answers. -/
def OutR (w : World) (p : Rols × Int) (e : Ending) (w' : World) : Prop :=
  ∃ vn vm, e = .returned (.tuple #[.agg #[vn, vm], .int .i64 p.2]) ∧ OwnX strQ w' w.heap.size 9 1 vn p.1.names ∧ OwnX memQ w' w.heap.size 45 2 vm p.1.mems ∧ Below w.heap.size w w'
def noR : Rols := ⟨[], []⟩
theorem outR_no {w W : World} {p1 : Nat} {c : Int} (hW : Below w.heap.size w W) (hp : w.heap.size ≤ p1) : OutR w (noR, c) (.returned (.tuple #[.agg #[.slice none 0 0, .slice none 0 0], .int .i64 c])) (W.setRow p1 #[.slice none 0 0, .slice none 0 0]) := by
  have hkR : Keeps (· ≠ p1) W (W.setRow p1 #[.slice none 0 0, .slice none 0 0]) := ⟨rfl, rfl, rfl, by simp, fun j _ hj => setRow_other _ _ _ _ hj⟩
  exact ⟨_, _, rfl, OwnX.nil _ _ _ _ _, OwnX.nil _ _ _ _ _, hW.trans (hkR.below hW.size fun j hj => by omega)⟩
theorem outR_yes {w W : World} {p1 : Nat} {c : Int} {cs : Array Value} {vn vm : Value} {r : Rols} (hW : Below w.heap.size w W) (hp : w.heap.size ≤ p1) (hr : W.heap[p1]? = some (.cells cs 25 (0, 0)))
    (hn : OwnX strQ W w.heap.size 9 1 vn r.names) (hm : OwnX memQ W w.heap.size 45 2 vm r.mems) :
    OutR w (r, c) (.returned (.tuple #[.agg #[vn, vm], .int .i64 c])) (W.setRow p1 #[vn, vm]) := by
  have hkR : Keeps (· ≠ p1) W (W.setRow p1 #[vn, vm]) := ⟨rfl, rfl, rfl, by simp, fun j _ hj => setRow_other _ _ _ _ hj⟩
  exact ⟨_, _, rfl, hn.setRow (fun h => h) hr (by decide), hm.setRow (fun h => h) hr (by decide), hW.trans (hkR.below hW.size fun j hj => by omega)⟩
theorem cells_both {W : World} {p1 : Nat} {t : TypeId} {u0 u1 : Value} (hr : W.heap[p1]? = some (.cells #[u0, u1] t (0, 0))) (vn vm : Value) : ((W.setCell ⟨p1, 0, none⟩ vn).setCell ⟨p1, 1, none⟩ vm).heap[p1]? = some (.cells #[vn, vm] t (0, 0)) :=
  heap_setCell_same _ p1 1 _ _ vm (heap_setCell_same W p1 0 _ _ vn hr)
theorem outR_cells {w W : World} {p1 : Nat} {c : Int} {u0 u1 : Value} {vn vm : Value} {r : Rols} (hW : Below w.heap.size w W) (hp : w.heap.size ≤ p1) (hr : W.heap[p1]? = some (.cells #[u0, u1] 25 (0, 0)))
    (hn : OwnX strQ W w.heap.size 9 1 vn r.names) (hm : OwnX memQ W w.heap.size 45 2 vm r.mems) :
    OutR w (r, c) (.returned (.tuple #[.agg #[vn, vm], .int .i64 c])) ((W.setCell ⟨p1, 0, none⟩ vn).setCell ⟨p1, 1, none⟩ vm) := by
  have hk : Keeps (· ≠ p1) W ((W.setCell ⟨p1, 0, none⟩ vn).setCell ⟨p1, 1, none⟩ vm) := (Keeps.refl.setCell (p := ⟨p1, 0, none⟩) (by simp) vn).setCell (p := ⟨p1, 1, none⟩) (by simp) vm
  exact ⟨_, _, rfl, hn.move (fun h => h) hk fun g hg => hn.off hr (by decide) hg, hm.move (fun h => h) hk fun g hg => hm.off hr (by decide) hg, hW.trans (hk.below hW.size fun j hj => by omega)⟩
theorem boxes2 (w : World) (o0 o1 : Obj) : ((w.alloc o0).alloc o1).heap[w.heap.size]? = some o0 ∧ ((w.alloc o0).alloc o1).heap[w.heap.size + 1]? = some o1 ∧ ((w.alloc o0).alloc o1).heap.size = w.heap.size + 1 + 1 ∧ Below w.heap.size w ((w.alloc o0).alloc o1) := by
  have e1 := size_box w o0
  have e2 := size_box (w.alloc o0) o1
  have r1 := heap_alloc_new (w.alloc o0) o1
  rw [e1] at r1 e2
  exact ⟨(Below.heap_alloc _ _ _ (by omega)).trans (heap_alloc_new w o0), r1, e2, ((Below.refl _ w).alloc (Nat.le_refl _) _).alloc (by omega) _⟩
theorem boxes3 (w : World) (o0 o1 o2 : Obj) : (((w.alloc o0).alloc o1).alloc o2).heap[w.heap.size]? = some o0 ∧ (((w.alloc o0).alloc o1).alloc o2).heap[w.heap.size + 1]? = some o1 ∧ (((w.alloc o0).alloc o1).alloc o2).heap[w.heap.size + 1 + 1]? = some o2 ∧ (((w.alloc o0).alloc o1).alloc o2).heap.size = w.heap.size + 1 + 1 + 1 ∧ Below w.heap.size w (((w.alloc o0).alloc o1).alloc o2) := by
  obtain ⟨h0, h1, h2, h3⟩ := boxes2 w o0 o1
  have e3 := size_box ((w.alloc o0).alloc o1) o2
  have r2 := heap_alloc_new ((w.alloc o0).alloc o1) o2
  rw [h2] at e3 r2
  exact ⟨(Below.heap_alloc _ _ _ (by omega)).trans h0, (Below.heap_alloc _ _ _ (by omega)).trans h1, r2, e3, h3.alloc (by omega) _⟩
/-- Roles that came in, in a later world. -/
theorem rol_on {w W : World} {B : Nat} {vn vm : Value} {r : Rols} (h : rolP w (· < B) [vn, vm] r) (hB : B ≤ w.heap.size) (hW : Below w.heap.size w W) : rolP W (· < B) [vn, vm] r := rol_keep h (fun _ h => h) (Keeps.of_below hW fun k hk => Nat.lt_of_lt_of_le hk hB)

noncomputable def joinF (r : Rols) (a b : ByteArray) : Rols × Int :=
  if rightR r = false then (noR, 1) else if (inB r.names a && inB r.names b) = false then (noR, 71) else if memIn r.mems ⟨a, b⟩ = true then (noR, 70) else if wayB r.mems b a = true then (noR, 72) else (⟨r.names, insBy ltM ⟨a, b⟩ r.mems⟩, 0)
noncomputable def leaveF (r : Rols) (a b : ByteArray) : Rols × Int :=
  if rightR r = false then (noR, 1) else if memIx r.mems ⟨a, b⟩ < 0 then (noR, 71) else (⟨r.names, r.mems.eraseIdx (memIx r.mems ⟨a, b⟩).toNat⟩, 0)
theorem lt_flip {x : Mem} {l : List Mem} (h : x ∉ l) : ∀ y ∈ l, ltM y x = !(ltM x y) := fun y hy => by
  rcases ltM_or x y with h1 | h1 | h1
  · rw [h1, ltM_anti h1]; rfl
  · exact absurd (h1 ▸ hy) h
  · rw [h1, ltM_anti h1]; rfl

set_option maxRecDepth 100000 in
set_option maxHeartbeats 16000000 in
theorem prog_rjoin_any (B : Nat) (vn vm : Value) (r : Rols) (a b : ByteArray) (w : World) (h : rolP w (· < B) [vn, vm] r) (hB : B ≤ w.heap.size) (hs : smallR 3000 r) (hsh : shortR r) (ha : a.size ≤ maxLen) (hb : b.size ≤ maxLen) :
    Calls Try.prog 20 #[.agg #[vn, vm], .string a, .string b] w (OutR w (joinF r a b)) := by
  obtain ⟨na, nn, nc, ma, mn, mc, rfl, rfl, hnn, hmn, hnc, hmc, hnc2, hmc2, hn, hm⟩ := rol_form h
  obtain ⟨w0, hw0⟩ : ∃ w0, w0 = (((w.alloc (.cells #[.slice na nn nc, .slice ma mn mc] 25)).alloc (.cells #[.slice none 0 0, .slice none 0 0] 25)).alloc (.cells #[.string a, .string b] 45)) := ⟨_, rfl⟩
  obtain ⟨q0, q1, q2, hsz, hbw⟩ := boxes3 w (.cells #[.slice na nn nc, .slice ma mn mc] 25) (.cells #[.slice none 0 0, .slice none 0 0] 25) (.cells #[.string a, .string b] 45)
  rw [← hw0] at q0 q1 q2 hsz hbw
  have HI : Hid ((Try.prog.info? 25).map (·.size) = some 2) := Lib.hid (by kernel_rfl)
  have HON : Hid ((#[.slice none 0 0, .slice none 0 0] : Array Value).all (·.oneCell') = true) := Lib.hid (by kernel_rfl)
  have HRL := Lib.hid (fun W (hW : Below w0.heap.size w0 W) => (rol_on h hB (hbw.trans (hW.mono hbw.size)) : rolP W (· < B) [.slice na nn nc, .slice ma mn mc] r))
  have HBS := Lib.hid (fun W (hW : Below w0.heap.size w0 W) => (Nat.le_trans hB (hbw.trans (hW.mono hbw.size)).size : B ≤ W.heap.size))
  have HBL := Lib.hid (fun W (hW : Below w0.heap.size w0 W) => (hbw.trans (hW.mono hbw.size) : Below w.heap.size w W))
  have HQ0 := Lib.hid (fun W (hW : Below w0.heap.size w0 W) => ((hW.block w.heap.size (lt_of_block q0)).trans q0 : W.heap[w.heap.size]? = _))
  have HQ1 := Lib.hid (fun W (hW : Below w0.heap.size w0 W) => ((hW.block (w.heap.size + 1) (lt_of_block q1)).trans q1 : W.heap[w.heap.size + 1]? = _))
  have HQ2 := Lib.hid (fun W (hW : Below w0.heap.size w0 W) => ((hW.block (w.heap.size + 1 + 1) (lt_of_block q2)).trans q2 : W.heap[w.heap.size + 1 + 1]? = _))
  have HCK := Lib.hid (fun W (hW : Below w0.heap.size w0 W) => prog_rcheck_any B _ _ r W (HRL.out W hW) (HBS.out W hW) hs hsh)
  have HB0 := Lib.hid (Below.refl w0.heap.size w0)
  have HNN := Lib.hid hnn; have HMN := Lib.hid hmn
  have HS3 := Lib.hid hs; have HSH := Lib.hid hsh; have HSZ := Lib.hid hsz; have HHB := Lib.hid hB
  have HTA := Lib.hid (fun x W (hW : Below w0.heap.size w0 W) => prog_there_any B _ _ r x W (HRL.out W hW))
  have HMI := Lib.hid (fun W (hW : Below w0.heap.size w0 W) => prog_memin_any B ma mn mc r.mems ⟨a, b⟩ W (by obtain ⟨_, _, hv, _, hm2⟩ := HRL.out W hW; simp only [List.cons.injEq, and_true] at hv; obtain ⟨rfl, rfl⟩ := hv; exact hm2) (HBS.out W hW))
  have HIS := Lib.hid (fun W (hW : Below w0.heap.size w0 W) => prog_is_any' B _ _ r b a W (HRL.out W hW) (HBS.out W hW) hs hsh hb ha)
  have HCN := Lib.hid (fun W (hW : Below w0.heap.size w0 W) => (prog_copylist_str na nn nc (· < B) r.names W (by obtain ⟨_, _, hv, hn2, _⟩ := HRL.out W hW; simp only [List.cons.injEq, and_true] at hv; obtain ⟨rfl, rfl⟩ := hv; exact hn2) (fun k hk => Nat.lt_of_lt_of_le hk (HBS.out W hW)) (by have := hs.1; omega)).mono (R' := InsLPost strQ W 9 1 r.names) fun _ _ ⟨v, h1, h2, h3⟩ => ⟨v, h1, h2.flat (fun h => h), h3⟩)
  have HIM := Lib.hid (fun (hr : RightR r) (hni : (⟨a, b⟩ : Mem) ∉ r.mems) W (hW : Below w0.heap.size w0 W) => prog_insert_mem B ma mn mc r.mems ⟨a, b⟩ W (by obtain ⟨_, _, hv, _, hm2⟩ := HRL.out W hW; simp only [List.cons.injEq, and_true] at hv; obtain ⟨rfl, rfl⟩ := hv; exact hm2) (HBS.out W hW) (by have := hs.2; omega) hr.mrise (lt_flip hni))
  clear h hn hm hs hsh q0 q1 q2 hsz hbw hnn hmn hB ha hb hnc hmc hnc2 hmc2
  have x0 := box_at (HQ0.out w0 HB0.out) 0 rfl
  have x1 := box_at (HQ0.out w0 HB0.out) 1 rfl
  have y0 := box_at (HQ2.out w0 HB0.out) 0 rfl
  try have y1 := box_at (HQ2.out w0 HB0.out) 1 rfl
  subst hw0
  go_enter Try.func20, Try.ntmps20
  go_wp2_with fail
  generalize World.alloc (World.alloc (World.alloc w _) _) _ = w0 at *
  refine (HCK.out w0 HB0.out).mono ?_
  rintro e w1 ⟨rfl, g⟩
  have HB1 := Lib.hid (below_on HB0.out (Nat.le_refl _) g)
  clear g
  have hok : okR r = if rightR r then 0 else 1 := rfl
  clear x0 x1 y0; try clear y1
  have x0 := box_at (HQ0.out w1 HB1.out) 0 rfl
  have x1 := box_at (HQ0.out w1 HB1.out) 1 rfl
  have y0 := box_at (HQ2.out w1 HB1.out) 0 rfl
  try have y1 := box_at (HQ2.out w1 HB1.out) 1 rfl
  cases h1 : rightR r with
  | false =>
    rw [h1] at hok
    rw [hok]
    clear hok
    have HF := Lib.hid (show joinF r a b = (noR, 1) by unfold joinF; rw [if_pos h1])
    have HG9 := Lib.hid (HQ1.out w1 HB1.out)
    have HROW9 := Lib.hid (setRow_heap _ _ _ #[.slice none 0 0, .slice none 0 0] _ _ HG9.out)
    go_wp2_with (refine wpList_store_box rfl 25 _ _ rfl (w.heap.size + 1) 25 _ #[.slice none 0 0, .slice none 0 0] rfl rfl HG9.out HI.out rfl HON.out ?_)
    refine bodyPost_ret (results_box_tmp rfl _ _ (w.heap.size + 1) _ _ (0, 0) _ rfl HROW9.out Try.underlying25 rfl HI.out) rfl ?_
    rw [HF.out]
    exact outR_no (HBL.out w1 HB1.out) (Nat.le_succ _)
  | true =>
    rw [h1] at hok
    rw [hok]
    clear hok
    have HR := Lib.hid h1
    cases h2 : inB r.names a with
    | false =>
      have HT1 := Lib.hid (HTA.out a w1 HB1.out)
      rw [h2] at HT1
      go_wp2_with fail
      refine (HT1.out).mono ?_
      rintro e w2 ⟨rfl, g⟩
      have HB2 := Lib.hid (below_on HB1.out (Nat.le_refl _) g.below)
      clear g
      clear x0 x1 y0; try clear y1
      have HF := Lib.hid (show joinF r a b = (noR, 71) by unfold joinF; rw [if_neg (by rw [h1]; simp), if_pos (by rw [h2]; rfl)])
      have HG9 := Lib.hid (HQ1.out w2 HB2.out)
      have HROW9 := Lib.hid (setRow_heap _ _ _ #[.slice none 0 0, .slice none 0 0] _ _ HG9.out)
      go_wp2_with (refine wpList_store_box rfl 25 _ _ rfl (w.heap.size + 1) 25 _ #[.slice none 0 0, .slice none 0 0] rfl rfl HG9.out HI.out rfl HON.out ?_)
      refine bodyPost_ret (results_box_tmp rfl _ _ (w.heap.size + 1) _ _ (0, 0) _ rfl HROW9.out Try.underlying25 rfl HI.out) rfl ?_
      rw [HF.out]
      exact outR_no (HBL.out w2 HB2.out) (Nat.le_succ _)
    | true =>
      have HT1 := Lib.hid (HTA.out a w1 HB1.out)
      rw [h2] at HT1
      go_wp2_with fail
      refine (HT1.out).mono ?_
      rintro e w2 ⟨rfl, g⟩
      have HB2 := Lib.hid (below_on HB1.out (Nat.le_refl _) g.below)
      clear g
      clear x0 x1 y0; try clear y1
      have x0 := box_at (HQ0.out w2 HB2.out) 0 rfl
      have x1 := box_at (HQ0.out w2 HB2.out) 1 rfl
      have y0 := box_at (HQ2.out w2 HB2.out) 0 rfl
      try have y1 := box_at (HQ2.out w2 HB2.out) 1 rfl
      cases h3 : inB r.names b with
      | false =>
        have HT2 := Lib.hid (HTA.out b w2 HB2.out)
        rw [h3] at HT2
        go_wp2_with fail
        refine (HT2.out).mono ?_
        rintro e w3 ⟨rfl, g⟩
        have HB3 := Lib.hid (below_on HB2.out (Nat.le_refl _) g.below)
        clear g
        clear x0 x1 y0; try clear y1
        have HF := Lib.hid (show joinF r a b = (noR, 71) by unfold joinF; rw [if_neg (by rw [h1]; simp), if_pos (by rw [h2, h3]; rfl)])
        have HG9 := Lib.hid (HQ1.out w3 HB3.out)
        have HROW9 := Lib.hid (setRow_heap _ _ _ #[.slice none 0 0, .slice none 0 0] _ _ HG9.out)
        go_wp2_with (refine wpList_store_box rfl 25 _ _ rfl (w.heap.size + 1) 25 _ #[.slice none 0 0, .slice none 0 0] rfl rfl HG9.out HI.out rfl HON.out ?_)
        refine bodyPost_ret (results_box_tmp rfl _ _ (w.heap.size + 1) _ _ (0, 0) _ rfl HROW9.out Try.underlying25 rfl HI.out) rfl ?_
        rw [HF.out]
        exact outR_no (HBL.out w3 HB3.out) (Nat.le_succ _)
      | true =>
        have HT2 := Lib.hid (HTA.out b w2 HB2.out)
        rw [h3] at HT2
        go_wp2_with fail
        refine (HT2.out).mono ?_
        rintro e w3 ⟨rfl, g⟩
        have HB3 := Lib.hid (below_on HB2.out (Nat.le_refl _) g.below)
        clear g
        clear x0 x1 y0; try clear y1
        have x0 := box_at (HQ0.out w3 HB3.out) 0 rfl
        have x1 := box_at (HQ0.out w3 HB3.out) 1 rfl
        have y0 := box_at (HQ2.out w3 HB3.out) 0 rfl
        try have y1 := box_at (HQ2.out w3 HB3.out) 1 rfl
        have HM1 := Lib.hid (HMI.out w3 HB3.out)
        cases h4 : memIn r.mems ⟨a, b⟩ with
        | true =>
          rw [h4] at HM1
          go_wp2_with fail
          refine (HM1.out).mono ?_
          rintro e w4 ⟨rfl, g⟩
          have HB4 := Lib.hid (below_on HB3.out (Nat.le_refl _) g.below)
          clear g
          clear x0 x1 y0; try clear y1
          have HF := Lib.hid (show joinF r a b = (noR, 70) by unfold joinF; rw [if_neg (by rw [h1]; simp), if_neg (by rw [h2, h3]; simp), if_pos h4])
          have HG9 := Lib.hid (HQ1.out w4 HB4.out)
          have HROW9 := Lib.hid (setRow_heap _ _ _ #[.slice none 0 0, .slice none 0 0] _ _ HG9.out)
          go_wp2_with (refine wpList_store_box rfl 25 _ _ rfl (w.heap.size + 1) 25 _ #[.slice none 0 0, .slice none 0 0] rfl rfl HG9.out HI.out rfl HON.out ?_)
          refine bodyPost_ret (results_box_tmp rfl _ _ (w.heap.size + 1) _ _ (0, 0) _ rfl HROW9.out Try.underlying25 rfl HI.out) rfl ?_
          rw [HF.out]
          exact outR_no (HBL.out w4 HB4.out) (Nat.le_succ _)
        | false =>
          rw [h4] at HM1
          go_wp2_with fail
          refine (HM1.out).mono ?_
          rintro e w4 ⟨rfl, g⟩
          have HB4 := Lib.hid (below_on HB3.out (Nat.le_refl _) g.below)
          clear g
          clear x0 x1 y0; try clear y1
          have x0 := box_at (HQ0.out w4 HB4.out) 0 rfl
          have x1 := box_at (HQ0.out w4 HB4.out) 1 rfl
          have y0 := box_at (HQ2.out w4 HB4.out) 0 rfl
          try have y1 := box_at (HQ2.out w4 HB4.out) 1 rfl
          have HI1 := Lib.hid (HIS.out w4 HB4.out)
          cases h5 : wayB r.mems b a with
          | true =>
            rw [h5] at HI1
            go_wp2_with fail
            refine (HI1.out).mono ?_
            rintro e w5 ⟨rfl, g⟩
            have HB5 := Lib.hid (below_on HB4.out (Nat.le_refl _) g)
            clear g
            clear x0 x1 y0; try clear y1
            have HF := Lib.hid (show joinF r a b = (noR, 72) by unfold joinF; rw [if_neg (by rw [h1]; simp), if_neg (by rw [h2, h3]; simp), if_neg (by rw [h4]; simp), if_pos h5])
            have HG9 := Lib.hid (HQ1.out w5 HB5.out)
            have HROW9 := Lib.hid (setRow_heap _ _ _ #[.slice none 0 0, .slice none 0 0] _ _ HG9.out)
            go_wp2_with (refine wpList_store_box rfl 25 _ _ rfl (w.heap.size + 1) 25 _ #[.slice none 0 0, .slice none 0 0] rfl rfl HG9.out HI.out rfl HON.out ?_)
            refine bodyPost_ret (results_box_tmp rfl _ _ (w.heap.size + 1) _ _ (0, 0) _ rfl HROW9.out Try.underlying25 rfl HI.out) rfl ?_
            rw [HF.out]
            exact outR_no (HBL.out w5 HB5.out) (Nat.le_succ _)
          | false =>
            rw [h5] at HI1
            go_wp2_with fail
            refine (HI1.out).mono ?_
            rintro e w5 ⟨rfl, g⟩
            have HB5 := Lib.hid (below_on HB4.out (Nat.le_refl _) g)
            clear g
            clear x0 x1 y0; try clear y1
            have x0 := box_at (HQ0.out w5 HB5.out) 0 rfl
            have x1 := box_at (HQ0.out w5 HB5.out) 1 rfl
            have y0 := box_at (HQ2.out w5 HB5.out) 0 rfl
            try have y1 := box_at (HQ2.out w5 HB5.out) 1 rfl
            have HINS := Lib.hid (HIM.out (rightR_iff.1 HR.out) (fun h => by rw [memIn_iff.2 h] at h4; cases h4))
            have HF := Lib.hid (show joinF r a b = ((⟨r.names, insBy ltM ⟨a, b⟩ r.mems⟩ : Rols), 0) by unfold joinF; rw [if_neg (by rw [h1]; simp), if_neg (by rw [h2, h3]; simp), if_neg (by rw [h4]; simp), if_neg (by rw [h5]; simp)])
            have HBD := Lib.hid (show Below w0.heap.size w0 w5.drew from below_drawn HB5.out 1)
            go_wp2_with fail
            go_region_law (first
              | (go_simp
                 first
                 | (refine (HCN.out _ (hW := HBM.out)).mono ?_
                    intro e wN hp
                    obtain ⟨v, rfl, hv, hb⟩ := hp
                    obtain ⟨aN, cN, rfl, _, _⟩ := id hv.form
                    have HBE := Lib.hid (below_on HBM.out (Nat.le_refl _) hb)
                    have HVNE := Lib.hid (hv.mono str_stays (HBL.out _ HBM.out).size)
                    have HVME := Lib.hid (HVM.out.below mem_stays hb)
                    have z0 := box_at (HQ1.out _ HBE.out) 0 rfl
                    have z1 := box_at (HQ1.out _ HBE.out) 1 rfl
                    have f0 := frozen_of_row _ (w.heap.size + 1) 0 _ _ (HQ1.out _ HBE.out)
                    have f1 := frozen_of_row _ (w.heap.size + 1) 1 _ _ (HQ1.out _ HBE.out)
                    clear hv hb)
                 | (refine (HCN.out _ (hW := HBD.out)).mono ?_
                    intro e wN hp
                    obtain ⟨v, rfl, hv, hb⟩ := hp
                    obtain ⟨aN, cN, rfl, _, _⟩ := id hv.form
                    have HBN := Lib.hid (below_on HBD.out (Nat.le_refl _) hb)
                    have HVN := Lib.hid (hv.mono str_stays (HBL.out _ HBD.out).size)
                    have x0 := box_at (HQ0.out _ HBN.out) 0 rfl
                    have x1 := box_at (HQ0.out _ HBN.out) 1 rfl
                    try have y0 := box_at (HQ2.out _ HBN.out) 0 rfl
                    try have y1 := box_at (HQ2.out _ HBN.out) 1 rfl
                    clear hv hb))
              | (go_simp
                 first
                 | (refine (HINS.out _ (hW := HBN.out)).mono ?_
                    intro e wM hp
                    obtain ⟨v, rfl, hv, hb⟩ := hp
                    obtain ⟨aM, cM, rfl, _, _⟩ := id hv.form
                    have HBE := Lib.hid (below_on HBN.out (Nat.le_refl _) hb)
                    have HVME := Lib.hid (hv.mono mem_stays (HBL.out _ HBN.out).size)
                    have HVNE := Lib.hid (HVN.out.below str_stays hb)
                    have z0 := box_at (HQ1.out _ HBE.out) 0 rfl
                    have z1 := box_at (HQ1.out _ HBE.out) 1 rfl
                    have f0 := frozen_of_row _ (w.heap.size + 1) 0 _ _ (HQ1.out _ HBE.out)
                    have f1 := frozen_of_row _ (w.heap.size + 1) 1 _ _ (HQ1.out _ HBE.out)
                    clear hv hb)
                 | (refine (HINS.out _ (hW := HBD.out)).mono ?_
                    intro e wM hp
                    obtain ⟨v, rfl, hv, hb⟩ := hp
                    obtain ⟨aM, cM, rfl, _, _⟩ := id hv.form
                    have HBM := Lib.hid (below_on HBD.out (Nat.le_refl _) hb)
                    have HVM := Lib.hid (hv.mono mem_stays (HBL.out _ HBD.out).size)
                    have x0 := box_at (HQ0.out _ HBM.out) 0 rfl
                    have x1 := box_at (HQ0.out _ HBM.out) 1 rfl
                    try have y0 := box_at (HQ2.out _ HBM.out) 0 rfl
                    try have y1 := box_at (HQ2.out _ HBM.out) 1 rfl
                    clear hv hb)))
            all_goals
              have hr2 := cells_both (HQ1.out _ HBE.out) (.slice aN ((⟨r.names, insBy ltM ⟨a, b⟩ r.mems⟩ : Rols)).names.length cN) (.slice aM ((⟨r.names, insBy ltM ⟨a, b⟩ r.mems⟩ : Rols)).mems.length cM)
              have HR2 := Lib.hid hr2
              have HOUT := Lib.hid (outR_cells (c := 0) (r := (⟨r.names, insBy ltM ⟨a, b⟩ r.mems⟩ : Rols)) (HBL.out _ HBE.out) (Nat.le_succ _) (HQ1.out _ HBE.out) HVNE.out HVME.out)
              clear z0 z1 f0 f1 hr2
              go_wp2_with fail
              refine bodyPost_ret (results_box_tmp rfl _ _ (w.heap.size + 1) _ _ (0, 0) _ rfl HR2.out Try.underlying25 rfl HI.out) rfl ?_
              rw [HF.out]
              exact HOUT.out

set_option maxRecDepth 100000 in
set_option maxHeartbeats 16000000 in
theorem prog_rleave_any (B : Nat) (vn vm : Value) (r : Rols) (a b : ByteArray) (w : World) (h : rolP w (· < B) [vn, vm] r) (hB : B ≤ w.heap.size) (hs : smallR 3000 r) (hsh : shortR r) :
    Calls Try.prog 22 #[.agg #[vn, vm], .string a, .string b] w (OutR w (leaveF r a b)) := by
  obtain ⟨na, nn, nc, ma, mn, mc, rfl, rfl, hnn, hmn, hnc, hmc, hnc2, hmc2, hn, hm⟩ := rol_form h
  obtain ⟨w0, hw0⟩ : ∃ w0, w0 = ((w.alloc (.cells #[.slice na nn nc, .slice ma mn mc] 25)).alloc (.cells #[.slice none 0 0, .slice none 0 0] 25)) := ⟨_, rfl⟩
  obtain ⟨q0, q1, hsz, hbw⟩ := boxes2 w (.cells #[.slice na nn nc, .slice ma mn mc] 25) (.cells #[.slice none 0 0, .slice none 0 0] 25)
  rw [← hw0] at q0 q1 hsz hbw
  have HI : Hid ((Try.prog.info? 25).map (·.size) = some 2) := Lib.hid (by kernel_rfl)
  have HON : Hid ((#[.slice none 0 0, .slice none 0 0] : Array Value).all (·.oneCell') = true) := Lib.hid (by kernel_rfl)
  have HRL := Lib.hid (fun W (hW : Below w0.heap.size w0 W) => (rol_on h hB (hbw.trans (hW.mono hbw.size)) : rolP W (· < B) [.slice na nn nc, .slice ma mn mc] r))
  have HBS := Lib.hid (fun W (hW : Below w0.heap.size w0 W) => (Nat.le_trans hB (hbw.trans (hW.mono hbw.size)).size : B ≤ W.heap.size))
  have HBL := Lib.hid (fun W (hW : Below w0.heap.size w0 W) => (hbw.trans (hW.mono hbw.size) : Below w.heap.size w W))
  have HQ0 := Lib.hid (fun W (hW : Below w0.heap.size w0 W) => ((hW.block w.heap.size (lt_of_block q0)).trans q0 : W.heap[w.heap.size]? = _))
  have HQ1 := Lib.hid (fun W (hW : Below w0.heap.size w0 W) => ((hW.block (w.heap.size + 1) (lt_of_block q1)).trans q1 : W.heap[w.heap.size + 1]? = _))
  have HCK := Lib.hid (fun W (hW : Below w0.heap.size w0 W) => prog_rcheck_any B _ _ r W (HRL.out W hW) (HBS.out W hW) hs hsh)
  have HB0 := Lib.hid (Below.refl w0.heap.size w0)
  have HNN := Lib.hid hnn; have HMN := Lib.hid hmn
  have HS3 := Lib.hid hs; have HSH := Lib.hid hsh; have HSZ := Lib.hid hsz; have HHB := Lib.hid hB
  have HMI := Lib.hid (fun W (hW : Below w0.heap.size w0 W) => prog_memidx_any B ma mn mc r.mems ⟨a, b⟩ W (by obtain ⟨_, _, hv, _, hm2⟩ := HRL.out W hW; simp only [List.cons.injEq, and_true] at hv; obtain ⟨rfl, rfl⟩ := hv; exact hm2) (HBS.out W hW))
  have HCN := Lib.hid (fun W (hW : Below w0.heap.size w0 W) => (prog_copylist_str na nn nc (· < B) r.names W (by obtain ⟨_, _, hv, hn2, _⟩ := HRL.out W hW; simp only [List.cons.injEq, and_true] at hv; obtain ⟨rfl, rfl⟩ := hv; exact hn2) (fun k hk => Nat.lt_of_lt_of_le hk (HBS.out W hW)) (by have := hs.1; omega)).mono (R' := InsLPost strQ W 9 1 r.names) fun _ _ ⟨v, h1, h2, h3⟩ => ⟨v, h1, h2.flat (fun h => h), h3⟩)
  have HWM := Lib.hid (fun k (hk : k < mn) W (hW : Below w0.heap.size w0 W) => (prog_without_mem ma mn mc (· < B) r.mems k W (by obtain ⟨_, _, hv, _, hm2⟩ := HRL.out W hW; simp only [List.cons.injEq, and_true] at hv; obtain ⟨rfl, rfl⟩ := hv; exact hm2) hk (fun k hk => Nat.lt_of_lt_of_le hk (HBS.out W hW)) (by have := hs.2; omega)).mono (R' := InsLPost memQ W 45 2 (r.mems.eraseIdx k)) fun _ _ ⟨v, h1, h2, h3⟩ => ⟨v, h1, h2.flat (fun h => h), h3⟩)
  clear h hn hm hs hsh q0 q1 hsz hbw hnn hmn hB hnc hmc hnc2 hmc2
  have x0 := box_at (HQ0.out w0 HB0.out) 0 rfl
  have x1 := box_at (HQ0.out w0 HB0.out) 1 rfl
  subst hw0
  go_enter Try.func22, Try.ntmps22
  go_wp2_with fail
  generalize World.alloc (World.alloc w _) _ = w0 at *
  refine (HCK.out w0 HB0.out).mono ?_
  rintro e w1 ⟨rfl, g⟩
  have HB1 := Lib.hid (below_on HB0.out (Nat.le_refl _) g)
  clear g
  have hok : okR r = if rightR r then 0 else 1 := rfl
  clear x0 x1
  have x0 := box_at (HQ0.out w1 HB1.out) 0 rfl
  have x1 := box_at (HQ0.out w1 HB1.out) 1 rfl
  cases h1 : rightR r with
  | false =>
    rw [h1] at hok
    rw [hok]
    clear hok
    have HF := Lib.hid (show leaveF r a b = (noR, 1) by unfold leaveF; rw [if_pos h1])
    have HG9 := Lib.hid (HQ1.out w1 HB1.out)
    have HROW9 := Lib.hid (setRow_heap _ _ _ #[.slice none 0 0, .slice none 0 0] _ _ HG9.out)
    go_wp2_with (refine wpList_store_box rfl 25 _ _ rfl (w.heap.size + 1) 25 _ #[.slice none 0 0, .slice none 0 0] rfl rfl HG9.out HI.out rfl HON.out ?_)
    refine bodyPost_ret (results_box_tmp rfl _ _ (w.heap.size + 1) _ _ (0, 0) _ rfl HROW9.out Try.underlying25 rfl HI.out) rfl ?_
    rw [HF.out]
    exact outR_no (HBL.out w1 HB1.out) (Nat.le_succ _)
  | true =>
    rw [h1] at hok
    rw [hok]
    clear hok
    have HM1 := Lib.hid (HMI.out w1 HB1.out)
    have hidx : ∀ j : Nat, memIx r.mems ⟨a, b⟩ = j → j < mn := fun j hj => by have := idxI_lt (fun y => decide ((⟨a, b⟩ : Mem) = y)) r.mems; rw [HMN.out] at this; unfold memIx at hj; omega
    have hge : -1 ≤ memIx r.mems ⟨a, b⟩ := idxI_ge _ _
    have hlv : leaveF r a b = (if memIx r.mems ⟨a, b⟩ < 0 then (noR, 71) else (⟨r.names, r.mems.eraseIdx (memIx r.mems ⟨a, b⟩).toNat⟩, 0)) := by unfold leaveF; rw [if_neg (by rw [h1]; simp)]
    generalize memIx r.mems ⟨a, b⟩ = q at *
    by_cases h2 : q < 0
    · obtain rfl : q = -1 := by omega
      have HLV := Lib.hid hlv
      clear hidx hge hlv
      go_wp2_with fail
      refine (HM1.out).mono ?_
      rintro e w2 ⟨rfl, g⟩
      have HB2 := Lib.hid (below_on HB1.out (Nat.le_refl _) g.below)
      clear g
      clear x0 x1
      have HF := Lib.hid (show leaveF r a b = (noR, 71) by rw [HLV.out]; rfl)
      have HG9 := Lib.hid (HQ1.out w2 HB2.out)
      have HROW9 := Lib.hid (setRow_heap _ _ _ #[.slice none 0 0, .slice none 0 0] _ _ HG9.out)
      go_wp2_with (refine wpList_store_box rfl 25 _ _ rfl (w.heap.size + 1) 25 _ #[.slice none 0 0, .slice none 0 0] rfl rfl HG9.out HI.out rfl HON.out ?_)
      refine bodyPost_ret (results_box_tmp rfl _ _ (w.heap.size + 1) _ _ (0, 0) _ rfl HROW9.out Try.underlying25 rfl HI.out) rfl ?_
      rw [HF.out]
      exact outR_no (HBL.out w2 HB2.out) (Nat.le_succ _)
    · obtain ⟨j, rfl⟩ : ∃ j : Nat, q = j := ⟨q.toNat, by omega⟩
      have j0 : ¬ ((j : Int) < 0) := h2
      have HJ := Lib.hid (hidx j rfl)
      have HLV := Lib.hid (show leaveF r a b = (⟨r.names, r.mems.eraseIdx j⟩, 0) by rw [hlv, if_neg h2]; rfl)
      clear hidx hge hlv h2
      go_wp2_with fail
      refine (HM1.out).mono ?_
      rintro e w2 ⟨rfl, g⟩
      have HB2 := Lib.hid (below_on HB1.out (Nat.le_refl _) g.below)
      clear g
      clear x0 x1
      have x0 := box_at (HQ0.out w2 HB2.out) 0 rfl
      have x1 := box_at (HQ0.out w2 HB2.out) 1 rfl
      have HINS := Lib.hid (HWM.out j HJ.out)
      have HF := Lib.hid (show leaveF r a b = ((⟨r.names, r.mems.eraseIdx j⟩ : Rols), 0) by rw [HLV.out])
      have HBD := Lib.hid (show Below w0.heap.size w0 w2.drew from below_drawn HB2.out 1)
      go_wp2_with fail
      go_region_law (first
        | (go_simp
           first
           | (refine (HCN.out _ (hW := HBM.out)).mono ?_
              intro e wN hp
              obtain ⟨v, rfl, hv, hb⟩ := hp
              obtain ⟨aN, cN, rfl, _, _⟩ := id hv.form
              have HBE := Lib.hid (below_on HBM.out (Nat.le_refl _) hb)
              have HVNE := Lib.hid (hv.mono str_stays (HBL.out _ HBM.out).size)
              have HVME := Lib.hid (HVM.out.below mem_stays hb)
              have z0 := box_at (HQ1.out _ HBE.out) 0 rfl
              have z1 := box_at (HQ1.out _ HBE.out) 1 rfl
              have f0 := frozen_of_row _ (w.heap.size + 1) 0 _ _ (HQ1.out _ HBE.out)
              have f1 := frozen_of_row _ (w.heap.size + 1) 1 _ _ (HQ1.out _ HBE.out)
              clear hv hb)
           | (refine (HCN.out _ (hW := HBD.out)).mono ?_
              intro e wN hp
              obtain ⟨v, rfl, hv, hb⟩ := hp
              obtain ⟨aN, cN, rfl, _, _⟩ := id hv.form
              have HBN := Lib.hid (below_on HBD.out (Nat.le_refl _) hb)
              have HVN := Lib.hid (hv.mono str_stays (HBL.out _ HBD.out).size)
              have x0 := box_at (HQ0.out _ HBN.out) 0 rfl
              have x1 := box_at (HQ0.out _ HBN.out) 1 rfl
              try have y0 := box_at (HQ2.out _ HBN.out) 0 rfl
              try have y1 := box_at (HQ2.out _ HBN.out) 1 rfl
              clear hv hb))
        | (go_simp
           first
           | (refine (HINS.out _ (hW := HBN.out)).mono ?_
              intro e wM hp
              obtain ⟨v, rfl, hv, hb⟩ := hp
              obtain ⟨aM, cM, rfl, _, _⟩ := id hv.form
              have HBE := Lib.hid (below_on HBN.out (Nat.le_refl _) hb)
              have HVME := Lib.hid (hv.mono mem_stays (HBL.out _ HBN.out).size)
              have HVNE := Lib.hid (HVN.out.below str_stays hb)
              have z0 := box_at (HQ1.out _ HBE.out) 0 rfl
              have z1 := box_at (HQ1.out _ HBE.out) 1 rfl
              have f0 := frozen_of_row _ (w.heap.size + 1) 0 _ _ (HQ1.out _ HBE.out)
              have f1 := frozen_of_row _ (w.heap.size + 1) 1 _ _ (HQ1.out _ HBE.out)
              clear hv hb)
           | (refine (HINS.out _ (hW := HBD.out)).mono ?_
              intro e wM hp
              obtain ⟨v, rfl, hv, hb⟩ := hp
              obtain ⟨aM, cM, rfl, _, _⟩ := id hv.form
              have HBM := Lib.hid (below_on HBD.out (Nat.le_refl _) hb)
              have HVM := Lib.hid (hv.mono mem_stays (HBL.out _ HBD.out).size)
              have x0 := box_at (HQ0.out _ HBM.out) 0 rfl
              have x1 := box_at (HQ0.out _ HBM.out) 1 rfl
              try have y0 := box_at (HQ2.out _ HBM.out) 0 rfl
              try have y1 := box_at (HQ2.out _ HBM.out) 1 rfl
              clear hv hb)))
      all_goals
        have hr2 := cells_both (HQ1.out _ HBE.out) (.slice aN ((⟨r.names, r.mems.eraseIdx j⟩ : Rols)).names.length cN) (.slice aM ((⟨r.names, r.mems.eraseIdx j⟩ : Rols)).mems.length cM)
        have HR2 := Lib.hid hr2
        have HOUT := Lib.hid (outR_cells (c := 0) (r := (⟨r.names, r.mems.eraseIdx j⟩ : Rols)) (HBL.out _ HBE.out) (Nat.le_succ _) (HQ1.out _ HBE.out) HVNE.out HVME.out)
        clear z0 z1 f0 f1 hr2
        go_wp2_with fail
        refine bodyPost_ret (results_box_tmp rfl _ _ (w.heap.size + 1) _ _ (0, 0) _ rfl HR2.out Try.underlying25 rfl HI.out) rfl ?_
        rw [HF.out]
        exact HOUT.out
end Go.Proofs.Ytekhkmhpeefenaa
