/-
  Layer 8's law: large, the document's R, is.
-/
import Derived.Test.YtekhkmhpeefenaaRolF
namespace Go.Proofs.Ytekhkmhpeefenaa
set_option linter.unusedVariables false
open Go.RowKit Go.Sort Go.Shelf

def docR : Rols := ⟨[⟨#[97]⟩, ⟨#[98]⟩, ⟨#[99]⟩], [⟨⟨#[97]⟩, ⟨#[98]⟩⟩, ⟨⟨#[98]⟩, ⟨#[99]⟩⟩]⟩
theorem not_way {ms : List Mem} (S : List ByteArray) (hc : ms.all (fun m => !(inB S m.role) || inB S m.of) = true) {a b : ByteArray} (ha : inB S a = true) (hb : inB S b = false) : ¬ Way ms a b := fun h => by
  have : ∀ {x y}, Way ms x y → inB S x = true → inB S y = true := fun {x y} hw => by
    induction hw with
    | refl => exact id
    | step hm _ ih => exact fun hx => ih (by have := List.all_eq_true.1 hc _ hm; simp only [hx, Bool.not_true, Bool.false_or] at this; exact this)
  rw [this h ha] at hb
  cases hb
theorem docR_ring : ¬ Cyc docR.mems := by
  rintro ⟨m, hm, hw⟩
  have hm' : m = ⟨⟨#[97]⟩, ⟨#[98]⟩⟩ ∨ m = ⟨⟨#[98]⟩, ⟨#[99]⟩⟩ := by
    rcases List.mem_cons.1 hm with h | h
    · exact .inl h
    · exact .inr (List.mem_singleton.1 h)
  rcases hm' with rfl | rfl
  · exact not_way [⟨#[98]⟩, ⟨#[99]⟩] (by decide +kernel) (by decide +kernel) (by decide +kernel) hw
  · exact not_way [⟨#[99]⟩] (by decide +kernel) (by decide +kernel) (by decide +kernel) hw
theorem docR_right : RightR docR where
  few := by decide
  names := by decide +kernel
  rise := by decide +kernel
  ends := fun m hm => by
    have := List.all_eq_true.1 (show docR.mems.all (fun m => inB docR.names m.role && inB docR.names m.of) = true by decide +kernel) m hm
    simp only [Bool.and_eq_true, inB_iff] at this
    exact this
  mrise := by decide +kernel
  noring := docR_ring
theorem docR_rightR : rightR docR = true := rightR_iff.2 docR_right
theorem docR_small : smallR 3000 docR := ⟨by decide, by decide⟩
theorem docR_short : shortR docR := by
  have h : ∀ n : ByteArray, n.size ≤ 1 → n.size ≤ maxLen := fun n h => by unfold maxLen; omega
  exact ⟨fun n hn => h n ((by decide +kernel : ∀ n ∈ docR.names, n.size ≤ 1) n hn), fun m hm => ⟨h _ ((by decide +kernel : ∀ m ∈ docR.mems, m.role.size ≤ 1) m hm), h _ ((by decide +kernel : ∀ m ∈ docR.mems, m.of.size ≤ 1) m hm)⟩⟩
theorem docR_ac : isR docR ⟨#[97]⟩ ⟨#[99]⟩ = true := by
  unfold isR
  rw [docR_rightR, show inB docR.names ⟨#[97]⟩ = true by decide +kernel, wayB_iff.2 (.step (b := ⟨#[98]⟩) (by decide +kernel) (.step (b := ⟨#[99]⟩) (by decide +kernel) (.refl _)))]
  rfl
theorem docR_ca : isR docR ⟨#[99]⟩ ⟨#[97]⟩ = false := by
  unfold isR
  rw [wayB_no.2 (not_way [⟨#[99]⟩] (by decide +kernel) (by decide +kernel) (by decide +kernel))]
  simp

theorem isR_trans {r : Rols} {a b c : ByteArray} (h : isR r a b = true) (g : isR r b c = true) : isR r a c = true := by
  unfold isR at *
  simp only [Bool.and_eq_true, wayB_iff] at *
  exact ⟨h.1, h.2.1, h.2.2.trans g.2.2⟩
theorem isR_anti {r : Rols} {a b : ByteArray} (hn : a ≠ b) (h : isR r a b = true) : isR r b a = false := by
  cases g : isR r b a with
  | false => rfl
  | true =>
    unfold isR at *
    simp only [Bool.and_eq_true, wayB_iff, rightR_iff] at *
    obtain ⟨hr, _, hw⟩ := h
    cases hw with
    | refl => exact absurd rfl hn
    | step hm hw' => exact absurd ⟨_, hm, hw'.trans g.2.2⟩ hr.noring

def largeR (r : Rols) : Bool := decide (1000 < r.names.length) || decide (1000 < r.mems.length)
theorem largeR_no {r : Rols} (h : largeR r = false) : smallR 3000 r := by
  unfold largeR at h
  simp only [Bool.or_eq_false_iff, decide_eq_false_iff_not] at h
  exact ⟨by omega, by omega⟩
set_option maxRecDepth 100000 in
theorem law08_large_any (B : Nat) (r : Rols) (vn vm : Value) (w : World) (h : rolP w (· < B) [vn, vm] r) :
    Calls Try.prog 9 #[.agg #[vn, vm]] w fun e w' => e = .returned (.bool (largeR r)) ∧ Gr w w' := by
  obtain ⟨na, nn, nc, ma, mn, mc, rfl, rfl, hnn, hmn, _, _, _, _, hn, hm⟩ := rol_form h
  obtain ⟨b0, b1⟩ := box_two w (.slice na nn nc) (.slice ma mn mc) 25
  have HG := Lib.hid (Gr.alloc w (.cells #[.slice na nn nc, .slice ma mn mc] 25))
  have hd : largeR r = (decide (1000 < nn) || decide (1000 < mn)) := by unfold largeR; rw [hnn, hmn]
  clear h hn hm hnn hmn
  by_cases h1 : 1000 < nn
  · have HF := Lib.hid (show largeR r = true by rw [hd, decide_eq_true h1]; rfl)
    have h2 : (1000 : Int) < (nn : Int) := by omega
    clear hd
    go_enter Try.func9, Try.ntmps9
    go_wp2_with fail
    go_ret
    exact ⟨by rw [HF.out]; rfl, HG.out⟩
  · have h2 : ¬ (1000 : Int) < (nn : Int) := by omega
    by_cases h3 : 1000 < mn
    · have HF := Lib.hid (show largeR r = true by rw [hd, decide_eq_true h3]; simp)
      have h4 : (1000 : Int) < (mn : Int) := by omega
      clear hd
      go_enter Try.func9, Try.ntmps9
      go_wp2_with fail
      go_ret
      exact ⟨by rw [HF.out]; rfl, HG.out⟩
    · have HF := Lib.hid (show largeR r = false by rw [hd, decide_eq_false h1, decide_eq_false h3]; rfl)
      have h4 : ¬ (1000 : Int) < (mn : Int) := by omega
      clear hd
      go_enter Try.func9, Try.ntmps9
      go_wp2_with fail
      go_ret
      exact ⟨by rw [HF.out]; rfl, HG.out⟩

/-- What the law's helper makes: R, in memory of its own. -/
def OneR (w : World) (e : Ending) (w' : World) : Prop := ∃ vn vm, e = .returned (.agg #[vn, vm]) ∧ rolP w' (Sf w.heap.size w') [vn, vm] docR ∧ Below w.heap.size w w'
def docRs (p : Nat) : Array Obj := #[.cells #[.slice (some ⟨p + 1, 0, none⟩) 3 3, .slice (some ⟨p + 1 + 1, 0, none⟩) 2 2] 25, .cells #[.string ⟨#[97]⟩, .string ⟨#[98]⟩, .string ⟨#[99]⟩] 9,
  .cells #[.string ⟨#[97]⟩, .string ⟨#[98]⟩, .string ⟨#[98]⟩, .string ⟨#[99]⟩] 45]
theorem doc_rol (w : World) : rolP (grow w (docRs w.heap.size)) (Sf w.heap.size (grow w (docRs w.heap.size))) [.slice (some ⟨w.heap.size + 1, 0, none⟩) 3 3, .slice (some ⟨w.heap.size + 1 + 1, 0, none⟩) 2 2] docR := by
  have r1 := grow_at w (docRs w.heap.size) 1 (show 1 < 3 by omega)
  have r2 := grow_at w (docRs w.heap.size) 2 (show 2 < 3 by omega)
  generalize grow w (docRs w.heap.size) = W at *
  generalize w.heap.size = p at *
  have hS : ∀ {i : Nat} {cs : Array Value} {t : TypeId}, W.heap[p + i]? = some (.cells cs t (0, 0)) → Sf p W (p + i) := fun {i cs t} h => ⟨by omega, cs, t, h⟩
  refine ⟨_, _, rfl, Lst.row [[.string ⟨#[97]⟩], [.string ⟨#[98]⟩], [.string ⟨#[99]⟩]] r1 (by simp) (hS r1) rfl rfl (by unfold maxLen; omega) ?_, Lst.row [[.string ⟨#[97]⟩, .string ⟨#[98]⟩], [.string ⟨#[98]⟩, .string ⟨#[99]⟩]] r2 (by simp) (hS r2) rfl rfl (by unfold maxLen; omega) ?_⟩
  · intro i x y hx hy
    match i, hx, hy with
    | 0, hx, hy => cases hx; cases hy; rfl
    | 1, hx, hy => cases hx; cases hy; rfl
    | 2, hx, hy => cases hx; cases hy; rfl
    | i + 3, hx, _ => simp at hx
  · intro i x y hx hy
    match i, hx, hy with
    | 0, hx, hy => cases hx; cases hy; rfl
    | 1, hx, hy => cases hx; cases hy; rfl
    | i + 2, hx, _ => simp at hx
set_option maxRecDepth 100000 in
set_option maxHeartbeats 4000000 in
theorem law08_one_any (w : World) : Calls Try.prog 35 #[] w (OneR w) := by
  have HI : Hid ((Try.prog.info? 25).map (·.size) = some 2) := Lib.hid (by kernel_rfl)
  have HD := Lib.hid (doc_rol w)
  have HB := Lib.hid (Gr.grown w 0 (docRs w.heap.size)).below
  have HR := Lib.hid (grow_at w (docRs w.heap.size) 0 (show 0 < 3 by omega))
  go_enter Try.func35, Try.ntmps35
  go_wp2_with fail
  have hW : ∀ a b c : Obj, (((w.alloc a).alloc b).alloc c) = grow w #[a, b, c] := fun a b c => by simp [alloc_eq_grow, grow_grow]
  rw [hW]
  refine bodyPost_ret (results_cell_row rfl _ _ w.heap.size _ _ (0, 0) _ rfl HR.out Try.underlying25 rfl HI.out) rfl ?_
  exact ⟨_, _, rfl, HD.out, HB.out⟩

set_option maxRecDepth 100000 in
set_option maxHeartbeats 4000000 in
theorem law08_is_any (w : World) : Calls Try.prog 28 #[] w fun e w' => e = .returned (.bool true) ∧ Below w.heap.size w w' := by
  have hs : ∀ n : ByteArray, n.size ≤ 1 → n.size ≤ maxLen := fun n h => by unfold maxLen; omega
  have HC := Lib.hid (fun (x y : ByteArray) (hx : x.size ≤ 1) (hy : y.size ≤ 1) (W W' : World) (vn vm : Value) (h : rolP W' (Sf W.heap.size W') [vn, vm] docR) => prog_ris_any W'.heap.size vn vm docR x y W' (rol_keep h (fun _ h => h.lt) Keeps.refl) (Nat.le_refl _) docR_small docR_short (hs x hx) (hs y hy))
  have HO := Lib.hid law08_one_any
  clear hs
  go_enter Try.func28, Try.ntmps28
  go_wp2_with fail
  refine (HO.out w).mono ?_
  rintro e w1 ⟨vn, vm, rfl, ho, hb1⟩
  have HC1 := Lib.hid (HC.out ⟨#[97]⟩ ⟨#[99]⟩ (Nat.le_refl _) (Nat.le_refl _) w w1 vn vm ho)
  have HB1 := Lib.hid hb1
  clear ho hb1
  rw [docR_ac] at HC1
  go_wp2_with fail
  refine HC1.out.mono ?_
  rintro e w2 ⟨rfl, hb2⟩
  have HB2 := Lib.hid (below_on HB1.out (Nat.le_refl _) hb2)
  clear hb2 HC1 HB1
  go_wp2_with fail
  refine (HO.out w2).mono ?_
  rintro e w3 ⟨vn', vm', rfl, ho, hb3⟩
  have HC3 := Lib.hid (HC.out ⟨#[99]⟩ ⟨#[97]⟩ (Nat.le_refl _) (Nat.le_refl _) w2 w3 vn' vm' ho)
  have HB3 := Lib.hid (below_on HB2.out (Nat.le_refl _) hb3)
  clear ho hb3 HB2
  rw [docR_ca] at HC3
  go_wp2_with fail
  refine HC3.out.mono ?_
  rintro e w4 ⟨rfl, hb4⟩
  have HB4 := Lib.hid (below_on HB3.out (Nat.le_refl _) hb4)
  clear hb4
  go_wp2_with fail
  go_ret
  exact ⟨rfl, HB4.out⟩
end Go.Proofs.Ytekhkmhpeefenaa
