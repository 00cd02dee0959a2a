/-
  Layer 7, the program, by contract: columnMayBe, columnsMayBe, Index and Contains of texts.
-/
import Derived.Test.YtkghkioghkapcaaObpC
namespace Go.Proofs.Ytkghkioghkapcaa
open Go.RowKit Go.Sort Go.Shelf

theorem prog_index_any (a : Option Addr) (n c B : Nat) (l : List ByteArray) (s : ByteArray) (w : World) (h : Lst w (· < B) strP 1 (.slice a n c) l) :
    Calls Try.prog 128 #[.slice a n c, .string s] w fun e w' => e = .returned (.int .i64 (idxI (fun x => eqT s x) l)) ∧ w = w' := by
  obtain ⟨hl, hc, hm⟩ := h.len
  unfold maxLen at hm
  have HL := Lib.hid hl
  have HH := Lib.hid h
  clear h hl
  go_enter Try.func128, Try.ntmps128
  go_wp2_with fail
  go_loop [5, 8] (fun _ i => ∃ k : Nat, k ≤ n ∧ i = .int .i64 k ∧ Hid (∀ x ∈ l.take k, eqT s x = false)) (fun _ i => n - (intOf i).toNat)
  case atStart => exact ⟨0, Nat.zero_le _, rfl, Lib.hid (by simp)⟩
  case round =>
    obtain ⟨k, hk, rfl, hn⟩ := hrel
    by_cases hlt : k < n
    · have lk : k < l.length := by rw [HL.out]; exact hlt
      obtain ⟨b, o, x, rfl, hbB, hx, hcl⟩ := HH.out.at lk
      have hyes : eqT s l[k] = true → idxI (fun x => eqT s x) l = k := fun h => idxI_take lk hn.out h
      have hno := fun h => take_any_succ (p := fun x => eqT s x) lk hn.out h
      have k0 : (0 : Int) ≤ (k : Int) := by omega
      have k1 : (k : Int) < (n : Int) := by omega
      generalize l[k] = y at *
      obtain rfl : x = [.string y] := hx
      have c0 : w.cell? ⟨b, o + k, none⟩ = some (.string y) := by have := hcl 0 _ rfl; simpa using this
      clear hcl hn
      cases hq : eqT s y with
      | true =>
        have HY := Lib.hid (hyes hq)
        have e1 : (s.toList == y.toList) = true := hq
        clear hyes hno hq
        go_wp2_with fail
        go_ret
        exact ⟨by rw [HY.out]; rfl, rfl⟩
      | false =>
        have HN := Lib.hid (hno hq)
        have e1 : (s.toList == y.toList) = false := hq
        clear hyes hno hq
        go_wp2_with fail
        go_round
        case rel => exact ⟨k + 1, by omega, by go_num, HN⟩
        case measure => simp [intOf]; omega
    · have HF := Lib.hid (show idxI (fun x => eqT s x) l = -1 from idxI_all (by rw [HL.out]; omega) hn.out)
      go_wp2_with fail
      go_ret
      exact ⟨by rw [HF.out]; rfl, rfl⟩
theorem inB_idx (l : List ByteArray) (s : ByteArray) : inB l s = decide (0 ≤ idxI (fun x => eqT s x) l) := by
  unfold inB
  by_cases h : idxI (fun x => eqT s x) l < 0
  · have := idxI_neg h
    rw [decide_eq_false (by omega), List.any_eq_false]
    intro x hx
    rw [eqT_comm, this x hx]; simp
  · obtain ⟨k, hk⟩ : ∃ k : Nat, idxI (fun x => eqT s x) l = k := ⟨(idxI (fun x => eqT s x) l).toNat, by omega⟩
    obtain ⟨h1, h2, _⟩ := idxI_get hk
    rw [decide_eq_true (by omega), List.any_eq_true]
    exact ⟨l[k], List.getElem_mem h1, by rw [eqT_comm]; exact h2⟩
theorem prog_contains_any (a : Option Addr) (n c B : Nat) (l : List ByteArray) (s : ByteArray) (w : World) (h : Lst w (· < B) strP 1 (.slice a n c) l) :
    Calls Try.prog 90 #[.slice a n c, .string s] w fun e w' => e = .returned (.bool (inB l s)) ∧ w = w' := by
  have HI := Lib.hid (prog_index_any a n c B l s w h)
  have HE := Lib.hid (inB_idx l s)
  clear h
  generalize idxI (fun x => eqT s x) l = q at *
  go_enter Try.func90, Try.ntmps90
  go_wp2_with (go_at_call 128; refine HI.out.mono ?_; rintro e w' ⟨rfl, rfl⟩)
  go_ret
  exact ⟨by rw [HE.out]; rfl, rfl⟩

theorem prog_one_any (c : Col) (w : World) :
    Calls Try.prog 83 #[.agg #[.string c.name, .int .i64 c.kind, .bool c.null]] w fun e w' => e = .returned (.bool (oneB c)) ∧ Gr w w' := by
  have hbel := Gr.alloc w (.cells #[.string c.name, .int .i64 c.kind, .bool c.null] 41)
  have HN := Lib.hid (prog_name_any c.name)
  have hb : ∀ (j : Nat) u, ([.string c.name, .int .i64 c.kind, .bool c.null] : List Value)[j]? = some u → (w.alloc (.cells #[.string c.name, .int .i64 c.kind, .bool c.null] 41)).cell? ⟨w.heap.size, j, none⟩ = some u := fun j u hj => by
    rw [cell_of_row _ _ _ _ _ _ (heap_alloc_new w _)]
    simpa using hj
  have c0 := hb 0 _ rfl
  have c1 := hb 1 _ rfl
  clear hb
  have ho : oneB c = (nameB c.name && (decide (c.kind = 2) || decide (c.kind = 3))) := rfl
  generalize nameB c.name = nb at *
  have HB := Lib.hid hbel
  clear hbel
  cases nb with
  | false =>
    have HF := Lib.hid ho
    clear ho
    go_enter Try.func83, Try.ntmps83
    go_wp2_with (go_at_call 12; refine (HN.out _).mono ?_; rintro e w' ⟨rfl, rfl⟩)
    go_ret
    exact ⟨by rw [HF.out]; rfl, HB.out⟩
  | true =>
    by_cases h2 : c.kind = 2
    · have HF := Lib.hid (show oneB c = true by rw [ho, decide_eq_true h2]; rfl)
      have e2 : (c.kind == 2) = true := by simpa using h2
      clear ho h2
      go_enter Try.func83, Try.ntmps83
      go_wp2_with (go_at_call 12; refine (HN.out _).mono ?_; rintro e w' ⟨rfl, rfl⟩)
      go_ret
      exact ⟨by rw [HF.out]; rfl, HB.out⟩
    · have e2 : (c.kind == 2) = false := by simpa using h2
      by_cases h3 : c.kind = 3
      · have HF := Lib.hid (show oneB c = true by rw [ho, decide_eq_true h3]; simp)
        have e3 : (c.kind == 3) = true := by simpa using h3
        clear ho h2 h3
        go_enter Try.func83, Try.ntmps83
        go_wp2_with (go_at_call 12; refine (HN.out _).mono ?_; rintro e w' ⟨rfl, rfl⟩)
        go_ret
        exact ⟨by rw [HF.out]; rfl, HB.out⟩
      · have HF := Lib.hid (show oneB c = false by rw [ho, decide_eq_false h2, decide_eq_false h3]; rfl)
        have e3 : (c.kind == 3) = false := by simpa using h3
        clear ho h2 h3
        go_enter Try.func83, Try.ntmps83
        go_wp2_with (go_at_call 12; refine (HN.out _).mono ?_; rintro e w' ⟨rfl, rfl⟩)
        go_ret
        exact ⟨by rw [HF.out]; rfl, HB.out⟩
end Go.Proofs.Ytkghkioghkapcaa
