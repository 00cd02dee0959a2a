/-
  Layer 7's law: the document's O; checks.
-/
import Derived.Test.YtkghkioghkapcaaObpO
import Derived.Test.YtkghkioghkapcaaObjS
namespace Go.Proofs.Ytkghkioghkapcaa
open Go.RowKit Go.Sort Go.Shelf

/-- The document's O. -/
def docCols : List Col := [⟨⟨#[120]⟩, 2, false⟩, ⟨⟨#[121]⟩, 3, true⟩]
def docRul : Rul := ⟨⟨#[107]⟩, 2, [⟨#[120]⟩], 0, 0, ⟨#[]⟩, ⟨#[]⟩, ⟨#[]⟩⟩
def docTab : Tab := ⟨⟨#[115]⟩, ⟨#[116]⟩, ⟨#[111]⟩, docCols, [docRul]⟩
def docO : Objs := ⟨[⟨⟨#[115]⟩, ⟨#[111]⟩⟩], [docTab]⟩
theorem docO_right : rightB docO = true := by decide +kernel
theorem docO_small : smallO 3000 docO := ⟨by decide, by decide, fun k hk => by
  obtain rfl : k = 0 := by have : docO.tables.length = 1 := rfl; omega
  exact ⟨show 2 ≤ 3000 by omega, show 1 ≤ 3000 by omega, fun j hj => by
    obtain rfl : j = 0 := by have : (docO.tables[0].rules).length = 1 := rfl; omega
    exact (show 1 ≤ 3000 by omega)⟩⟩

def docOs (p : Nat) : Array Obj := #[.cells #[.slice (some ⟨p + 1 + 1 + 1 + 1 + 1 + 1, 0, none⟩) 1 1, .slice (some ⟨p + 1 + 1 + 1 + 1 + 1 + 1 + 1, 0, none⟩) 1 1] 26, .cells #[.string ⟨#[120]⟩] 9,
  .cells #[.string ⟨#[107]⟩, .int .i64 2, .slice (some ⟨p + 1, 0, none⟩) 1 1, .int .i64 0, .int .i64 0, .string ⟨#[]⟩, .string ⟨#[]⟩, .string ⟨#[]⟩] 56,
  .cells #[.string ⟨#[120]⟩, .int .i64 2, .bool false, .string ⟨#[121]⟩, .int .i64 3, .bool true] 41,
  .cells #[.string ⟨#[107]⟩, .int .i64 2, .slice (some ⟨p + 1, 0, none⟩) 1 1, .int .i64 0, .int .i64 0, .string ⟨#[]⟩, .string ⟨#[]⟩, .string ⟨#[]⟩] 56,
  .cells #[.string ⟨#[115]⟩, .string ⟨#[116]⟩, .string ⟨#[111]⟩, .slice (some ⟨p + 1 + 1 + 1, 0, none⟩) 2 2, .slice (some ⟨p + 1 + 1 + 1 + 1, 0, none⟩) 1 1] 35,
  .cells #[.string ⟨#[115]⟩, .string ⟨#[111]⟩] 75,
  .cells #[.string ⟨#[115]⟩, .string ⟨#[116]⟩, .string ⟨#[111]⟩, .slice (some ⟨p + 1 + 1 + 1, 0, none⟩) 2 2, .slice (some ⟨p + 1 + 1 + 1 + 1, 0, none⟩) 1 1] 35]
theorem doc_obj (w : World) : objP (grow w (docOs w.heap.size)) (Sf w.heap.size (grow w (docOs w.heap.size))) [.slice (some ⟨w.heap.size + 1 + 1 + 1 + 1 + 1 + 1, 0, none⟩) 1 1, .slice (some ⟨w.heap.size + 1 + 1 + 1 + 1 + 1 + 1 + 1, 0, none⟩) 1 1] docO := by
  have r1 := grow_at w (docOs w.heap.size) 1 (show 1 < 8 by omega)
  have r3 := grow_at w (docOs w.heap.size) 3 (show 3 < 8 by omega)
  have r4 := grow_at w (docOs w.heap.size) 4 (show 4 < 8 by omega)
  have r6 := grow_at w (docOs w.heap.size) 6 (show 6 < 8 by omega)
  have r7 := grow_at w (docOs w.heap.size) 7 (show 7 < 8 by omega)
  generalize grow w (docOs w.heap.size) = W at *
  generalize w.heap.size = p at *
  have hS : ∀ {i : Nat} {cs : Array Value} {t : TypeId}, W.heap[p + i]? = some (.cells cs t (0, 0)) → Sf p W (p + i) := fun {i cs t} h => ⟨by omega, cs, t, h⟩
  refine ⟨_, _, rfl, Lst.row [[.string ⟨#[115]⟩, .string ⟨#[111]⟩]] r6 (by simp) (hS r6) rfl rfl (by unfold maxLen; omega) ?_, Lst.row [[.string ⟨#[115]⟩, .string ⟨#[116]⟩, .string ⟨#[111]⟩, .slice (some ⟨p + 1 + 1 + 1, 0, none⟩) 2 2, .slice (some ⟨p + 1 + 1 + 1 + 1, 0, none⟩) 1 1]] r7 (by simp) (hS r7) rfl rfl (by unfold maxLen; omega) ?_⟩
  · intro i x y hx hy
    cases i with
    | zero => cases hx; cases hy; rfl
    | succ i => simp at hx
  · intro i x y hx hy
    cases i with
    | succ i => simp at hx
    | zero =>
      cases hx; cases hy
      refine ⟨_, _, rfl, Lst.row [[.string ⟨#[120]⟩, .int .i64 2, .bool false], [.string ⟨#[121]⟩, .int .i64 3, .bool true]] r3 (by simp) (hS r3) rfl rfl (by unfold maxLen; omega) ?_, Lst.row [[.string ⟨#[107]⟩, .int .i64 2, .slice (some ⟨p + 1, 0, none⟩) 1 1, .int .i64 0, .int .i64 0, .string ⟨#[]⟩, .string ⟨#[]⟩, .string ⟨#[]⟩]] r4 (by simp) (hS r4) rfl rfl (by unfold maxLen; omega) ?_⟩
      · intro i x y hx hy
        match i, hx, hy with
        | 0, hx, hy => cases hx; cases hy; rfl
        | 1, hx, hy => cases hx; cases hy; rfl
        | i + 2, hx, _ => simp at hx
      · intro i x y hx hy
        cases i with
        | succ i => simp at hx
        | zero =>
          cases hx; cases hy
          refine ⟨_, rfl, Lst.row [[.string ⟨#[120]⟩]] r1 (by simp) (hS r1) rfl rfl (by unfold maxLen; omega) ?_⟩
          intro i x y hx hy
          cases i with
          | zero => cases hx; cases hy; rfl
          | succ i => simp at hx
/-- What the law's helper makes: O, in memory of its own. -/
def OnePost (w : World) (e : Ending) (w' : World) : Prop := ∃ vs vt, e = .returned (.agg #[vs, vt]) ∧ objP w' (Sf w.heap.size w') [vs, vt] docO ∧ Below w.heap.size w w'
set_option maxRecDepth 100000 in
set_option maxHeartbeats 4000000 in
theorem law07_one_any (w : World) : Calls Try.prog 48 #[] w (OnePost w) := by
  have HI : Hid ((Try.prog.info? 26).map (·.size) = some 2) := Lib.hid (by kernel_rfl)
  have HD := Lib.hid (doc_obj w)
  have HB := Lib.hid (Gr.grown w 0 (docOs w.heap.size)).below
  have HR := Lib.hid (grow_at w (docOs w.heap.size) 0 (show 0 < 8 by omega))
  go_enter Try.func48, Try.ntmps48
  go_wp2_with fail
  have hW : ∀ a b c d e f g h : Obj, ((((((((w.alloc a).alloc b).alloc c).alloc d).alloc e).alloc f).alloc g).alloc h) = grow w #[a, b, c, d, e, f, g, h] := fun a b c d e f g h => by simp [alloc_eq_grow, grow_grow]
  rw [hW]
  refine bodyPost_ret (results_cell_row rfl _ _ w.heap.size _ _ (0, 0) _ rfl HR.out Try.underlying26 rfl HI.out) rfl ?_
  exact ⟨_, _, rfl, HD.out, HB.out⟩
theorem okE_yes {o : Objs} (h : rightB o = true) : okE o = 0 := by unfold okE; rw [if_pos h]
theorem okE_no {o : Objs} (h : rightB o = false) : okE o = 63 := by unfold okE; rw [h]; rfl
set_option maxRecDepth 100000 in
set_option maxHeartbeats 4000000 in
theorem law07_checks_any (w : World) : Calls Try.prog 15 #[] w fun e w' => e = .returned (.bool true) ∧ Below w.heap.size w w' := by
  go_enter Try.func15, Try.ntmps15
  go_wp2_with fail
  refine (law07_one_any w).mono ?_
  rintro e w1 ⟨vs, vt, rfl, ho, hb1⟩
  obtain ⟨_, _, hv, hss, hts⟩ := ho
  simp only [List.cons.injEq, and_true] at hv
  obtain ⟨rfl, rfl⟩ := hv
  obtain ⟨ta, tc, rfl, htc, htm⟩ := hts.form
  obtain ⟨sa, sc, rfl, hsc, hsm2⟩ := hss.form
  have hal := (Gr.alloc w1 (.cells #[.slice sa docO.schemas.length sc, .slice ta docO.tables.length tc] 26)).below
  have HROW := Lib.hid (heap_alloc_new w1 (.cells #[.slice sa docO.schemas.length sc, .slice ta docO.tables.length tc] 26))
  have HB2 := Lib.hid (hb1.trans (hal.mono hb1.size))
  have hkw : Keeps (Sf w.heap.size w1) w1 (w1.alloc (.cells #[.slice sa docO.schemas.length sc, .slice ta docO.tables.length tc] 26)) := Keeps.of_below hal fun k hk => hk.lt
  have HS := Lib.hid (schs_keep hss (S' := (· < w1.heap.size)) (fun k hk => hk.lt) hkw)
  have HT := Lib.hid (tabs_keep hts (S' := (· < w1.heap.size)) (fun k hk => hk.lt) hkw)
  have hsz : w1.heap.size ≤ (w1.alloc (.cells #[.slice sa docO.schemas.length sc, .slice ta docO.tables.length tc] 26)).heap.size := by simp
  have hpb : w1.heap.size < (w1.alloc (.cells #[.slice sa docO.schemas.length sc, .slice ta docO.tables.length tc] 26)).heap.size := by simp
  have c0 := box_at HROW.out 0 rfl
  have c1 := box_at HROW.out 1 rfl
  clear hss hts hal hb1 hkw
  go_wp2_with fail
  generalize World.alloc w1 _ = w2 at *
  generalize w1.heap.size = p at *
  refine (prog_check_any p docO _ _ w2 ⟨_, _, rfl, HS.out, HT.out⟩ hsz docO_small).mono ?_
  rintro e w3 ⟨rfl, hb3⟩
  rw [okE_yes docO_right]
  have hk3 : Keeps (· < p) w2 w3 := Keeps.of_below hb3 fun k hk => Nat.lt_of_lt_of_le hk hsz
  have HO3 : Hid (objP w3 (· < p) [.slice none 0 0, .slice ta docO.tables.length tc] ⟨[], docO.tables⟩) := Lib.hid ⟨_, _, rfl, ⟨none, 0, [], rfl, Nat.le_refl _, by unfold maxLen; omega, .inl rfl, rfl, fun i x y h => by simp at h⟩, tabs_keep HT.out (fun _ h => h) hk3⟩
  have HB3 := Lib.hid (HB2.out.trans (hb3.mono HB2.out.size))
  have HR3 := Lib.hid ((hb3.block _ hpb).trans HROW.out)
  have d1 := box_at HR3.out 1 rfl
  have hz3 : p ≤ w3.heap.size := Nat.le_trans hsz hb3.size
  clear hb3 hk3 c0 c1
  go_wp2_with fail
  refine (prog_check_any p ⟨[], docO.tables⟩ _ _ w3 HO3.out hz3 ⟨by simp, docO_small.2.1, docO_small.2.2⟩).mono ?_
  rintro e w4 ⟨rfl, hb4⟩
  rw [okE_no (show rightB ⟨[], docO.tables⟩ = false by decide +kernel)]
  have HB4 := Lib.hid (HB3.out.trans (hb4.mono HB3.out.size))
  clear hb4
  go_wp2_with fail
  go_ret
  exact ⟨rfl, HB4.out⟩
end Go.Proofs.Ytkghkioghkapcaa
