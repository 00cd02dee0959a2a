/-
  The document's answer for layer 7, by contract: Table, tables, one, Columns.
-/
import Derived.Test.YtkghkioghkapcaaObjA
import Derived.Deep.RegionHeld3
namespace Go.Proofs.Ytkghkioghkapcaa
open Go.RowKit

theorem cell_on {w w' : World} (h : Below w.heap.size w w') {p : Addr} {v : Value} (hc : w.cell? p = some v) : w'.cell? p = some v := (h.cell (World.block_lt_of_cell? w _ hc)).trans hc
theorem below_on {B : Nat} {w w' w'' : World} (h : Below B w w') (hB : B ≤ w.heap.size) (h' : Below w'.heap.size w' w'') : Below B w w'' := h.trans (h'.mono (Nat.le_trans hB h.size))
theorem tab_cells {w : World} {S : Nat → Prop} {x : List Value} {t : Tab} (h : tabP w S x t) : x[0]? = some (.string t.schema) ∧ x[1]? = some (.string t.name) ∧ x[2]? = some (.string t.owner) := by
  obtain ⟨vc, vr, rfl, _⟩ := h
  exact ⟨rfl, rfl, rfl⟩

set_option maxHeartbeats 1000000 in
theorem ref_table_any (B : Nat) (vs vt : Value) (o : Objs) (s t : ByteArray) (w : World) (h : objP w (· < B) [vs, vt] o) :
    Calls Try.prog 57 #[.agg #[vs, vt], .string s, .string t] w fun e w' => e = .returned (.int .i64 (tabI o.tables s t)) ∧ Gr w w' := by
  obtain ⟨vs', vt', hv, _, hs⟩ := h
  simp only [List.cons.injEq, and_true] at hv
  obtain ⟨rfl, rfl⟩ := hv
  obtain ⟨a, c, rfl, hc, hm⟩ := hs.form
  obtain ⟨n, hl⟩ : ∃ n, o.tables.length = n := ⟨_, rfl⟩
  rw [hl] at hs hc
  unfold maxLen at hm
  have hb := box_two w vs (.slice a n c) 26
  have hs' := tabs_keep hs (fun _ h => h) (keeps_alloc w B (.cells #[vs, .slice a n c] 26))
  have hbel := Gr.alloc w (.cells #[vs, .slice a n c] 26)
  rw [hl]
  generalize o.tables = l at *
  have HL := Lib.hid hl; clear hl hs
  have HH := Lib.hid hs'; clear hs'
  go_enter Try.func57, Try.ntmps57
  go_wp2
  generalize World.alloc w _ = w1 at *
  obtain ⟨hb0, hb1⟩ := hb
  go_loop [7] (fun i => ∃ k : Nat, k ≤ n ∧ i = .int .i64 k ∧ Hid (∀ x ∈ l.take k, (eqT x.schema s && eqT x.name t) = false)) (fun i => n - (intOf i).toNat)
  case atStart => exact ⟨0, Nat.zero_le _, rfl, Lib.hid (by simp)⟩
  case round =>
    obtain ⟨k, hk, rfl, hn⟩ := hrel
    by_cases hlt : k < n
    · have lk : k < l.length := by rw [HL.out]; exact hlt
      obtain ⟨b, o, x, rfl, _, hx, hcl⟩ := HH.out.at lk
      obtain ⟨x0, x1, _⟩ := tab_cells hx
      have hck0 := hcl 0 _ x0
      have hck1 := hcl 1 _ x1
      have hyes : (eqT l[k].schema s && eqT l[k].name t) = true → tabI l s t = k := fun h => idxI_take lk hn.out h
      have hno := fun h => take_any_succ (p := fun x => eqT x.schema s && eqT x.name t) lk hn.out h
      have k0 : (0 : Int) ≤ (k : Int) := by omega
      have k1 : (k : Int) < (n : Int) := by omega
      clear hcl hx x0 x1
      generalize l[k].schema = y at *
      generalize l[k].name = z at *
      rw [Nat.add_zero] at hck0
      by_cases hm1 : eqT y s = true
      · by_cases hm2 : eqT z t = true
        · have HY := Lib.hid (hyes (by rw [hm1, hm2]; rfl))
          have hq1 : (y.toList == s.toList) = true := hm1
          have hq2 : (z.toList == t.toList) = true := hm2
          clear hyes hno hm1 hm2
          go_wp2_with fail
          go_ret
          exact ⟨by rw [HY.out]; rfl, hbel⟩
        · have hq1 : (y.toList == s.toList) = true := hm1
          have hq2 : (z.toList == t.toList) = false := by simpa [eqT] using hm2
          have HN := Lib.hid (hno (by rw [hm1]; exact hq2))
          clear hyes hno hm1 hm2
          go_wp2_with fail
          go_round
          case rel => exact ⟨k + 1, by omega, by go_num, HN⟩
          case measure => simp [intOf]; omega
      · have hq1 : (y.toList == s.toList) = false := by simpa [eqT] using hm1
        have HN := Lib.hid (hno (by rw [show eqT y s = false from hq1]; rfl))
        clear hyes hno hm1
        go_wp2_with fail
        go_round
        case rel => exact ⟨k + 1, by omega, by go_num, HN⟩
        case measure => simp [intOf]; omega
    · have HF := Lib.hid (show tabI l s t = -1 from idxI_all (by rw [HL.out]; omega) hn.out)
      go_wp2
      go_ret
      exact ⟨by rw [HF.out]; rfl, hbel⟩

theorem tabN_in {l : List Tab} {s : ByteArray} {k : Nat} (h : k < l.length) (hm : eqT l[k].schema s = true) : tabN (l.take (k + 1)) s = tabN (l.take k) s + 1 := by
  unfold tabN
  rw [List.take_succ_eq_append_getElem h, List.filter_append, List.length_append]
  simp [hm]
theorem tabN_out {l : List Tab} {s : ByteArray} {k : Nat} (h : k < l.length) (hm : eqT l[k].schema s = false) : tabN (l.take (k + 1)) s = tabN (l.take k) s := by
  unfold tabN
  rw [List.take_succ_eq_append_getElem h, List.filter_append, List.length_append]
  simp [hm]

set_option maxHeartbeats 1000000 in
theorem ref_tables_any (B : Nat) (vs vt : Value) (o : Objs) (s : ByteArray) (w : World) (h : objP w (· < B) [vs, vt] o) :
    Calls Try.prog 71 #[.agg #[vs, vt], .string s] w fun e w' => e = .returned (.int .i64 (tabN o.tables s : Nat)) ∧ Gr w w' := by
  obtain ⟨vs', vt', hv, _, hs⟩ := h
  simp only [List.cons.injEq, and_true] at hv
  obtain ⟨rfl, rfl⟩ := hv
  obtain ⟨a, c, rfl, hc, hm⟩ := hs.form
  obtain ⟨n, hl⟩ : ∃ n, o.tables.length = n := ⟨_, rfl⟩
  rw [hl] at hs hc
  unfold maxLen at hm
  have hb := box_two w vs (.slice a n c) 26
  have hs' := tabs_keep hs (fun _ h => h) (keeps_alloc w B (.cells #[vs, .slice a n c] 26))
  have hbel := Gr.alloc w (.cells #[vs, .slice a n c] 26)
  rw [hl]
  generalize o.tables = l at *
  have HL := Lib.hid hl; clear hl hs
  have HH := Lib.hid hs'; clear hs'
  go_enter Try.func71, Try.ntmps71
  go_wp2
  generalize World.alloc w _ = w1 at *
  obtain ⟨hb0, hb1⟩ := hb
  go_loop [5, 6] (fun q i => ∃ k : Nat, k ≤ n ∧ i = .int .i64 k ∧ q = .int .i64 (tabN (l.take k) s : Nat)) (fun _ i => n - (intOf i).toNat)
  case atStart => exact ⟨0, Nat.zero_le _, rfl, rfl⟩
  case round =>
    obtain ⟨k, hk, rfl, rfl⟩ := hrel
    have hcl' := tabN_le (l.take k) s
    rw [List.length_take] at hcl'
    by_cases hlt : k < n
    · have lk : k < l.length := by rw [HL.out]; exact hlt
      obtain ⟨b, o, x, rfl, _, hx, hcl⟩ := HH.out.at lk
      have hck0 := hcl 0 _ (tab_cells hx).1
      have hin := fun h => tabN_in (s := s) lk h
      have hout := fun h => tabN_out (s := s) lk h
      have k0 : (0 : Int) ≤ (k : Int) := by omega
      have k1 : (k : Int) < (n : Int) := by omega
      have hq : tabN (l.take k) s ≤ k := by omega
      clear hcl hx hcl'
      generalize l[k].schema = y at *
      rw [Nat.add_zero] at hck0
      generalize tabN (l.take k) s = q at *
      by_cases hm1 : eqT y s = true
      · have HIN := Lib.hid (hin hm1)
        have hq1 : (y.toList == s.toList) = true := hm1
        clear hin hout hm1
        go_wp2_with fail
        go_round
        case rel => exact ⟨k + 1, by omega, by go_num, by rw [HIN.out]; go_num⟩
        case measure => simp [intOf]; omega
      · have hq1 : (y.toList == s.toList) = false := by simpa [eqT] using hm1
        have HOUT := Lib.hid (hout hq1)
        clear hin hout hm1
        go_wp2_with fail
        go_round
        case rel => exact ⟨k + 1, by omega, by go_num, by rw [HOUT.out]⟩
        case measure => simp [intOf]; omega
    · have hpe : l.take k = l := List.take_of_length_le (by rw [HL.out]; omega)
      rw [hpe] at hcl' ⊢
      clear hpe
      go_wp2
      go_ret
      exact ⟨rfl, hbel⟩

set_option maxHeartbeats 1000000 in
theorem ref_one_any (c : Col) (w : World) :
    Calls Try.prog 85 #[.agg #[.string c.name, .int .i64 c.kind, .bool c.null]] w fun e w' => e = .returned (.bool (oneB c)) ∧ Gr w w' := by
  have hbel := Gr.alloc w (.cells #[.string c.name, .int .i64 c.kind, .bool c.null] 41)
  have HN := Lib.hid (ref_name_any c.name)
  have hr : oneB c = (nameB c.name && (decide (c.kind = 2) || decide (c.kind = 3))) := rfl
  generalize c.name = s at *
  generalize c.kind = k at *
  generalize c.null = b at *
  cases hN : nameB s with
  | false =>
    rw [hN] at HN hr
    have HR := Lib.hid hr; clear hr
    go_enter Try.func85, Try.ntmps85
    go_wp2_with (go_at_call 13; refine (HN.out _).mono ?_; rintro e w' ⟨rfl, rfl⟩)
    go_ret
    exact ⟨by rw [HR.out]; rfl, hbel⟩
  | true =>
    rw [hN] at HN hr
    by_cases h2 : k = 2
    · subst h2
      have HR := Lib.hid hr; clear hr
      go_enter Try.func85, Try.ntmps85
      go_wp2_with (go_at_call 13; refine (HN.out _).mono ?_; rintro e w' ⟨rfl, rfl⟩)
      go_ret
      exact ⟨by rw [HR.out]; rfl, hbel⟩
    · have e2 : (k == 2) = false := by simpa using h2
      by_cases h3 : k = 3
      · subst h3
        have HR := Lib.hid hr; clear hr
        go_enter Try.func85, Try.ntmps85
        go_wp2_with (go_at_call 13; refine (HN.out _).mono ?_; rintro e w' ⟨rfl, rfl⟩)
        go_ret
        exact ⟨by rw [HR.out]; rfl, hbel⟩
      · have e3 : (k == 3) = false := by simpa using h3
        have hr' : oneB c = false := by rw [hr, decide_eq_false h2, decide_eq_false h3]; rfl
        have HR := Lib.hid hr'; clear hr hr'
        go_enter Try.func85, Try.ntmps85
        go_wp2_with (go_at_call 13; refine (HN.out _).mono ?_; rintro e w' ⟨rfl, rfl⟩)
        go_ret
        exact ⟨by rw [HR.out]; rfl, hbel⟩
end Go.Proofs.Ytkghkioghkapcaa
