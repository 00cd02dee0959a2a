/-
  The document's answer for layer 7, by contract: Name, In, Column, Rule, schema, Table, tables, one.
-/
import Derived.Test.YtkghkioghkapcaaObjR
import Derived.Test.YtkghkioghkapcaaSetsK
namespace Go.Proofs.Ytkghkioghkapcaa
open Go.RowKit

theorem take_any_succ {α : Type} {p : α → Bool} {l : List α} {k : Nat} (h : k < l.length) (hn : ∀ x ∈ l.take k, p x = false) (hp : p l[k] = false) : ∀ x ∈ l.take (k + 1), p x = false := by
  rw [List.take_succ_eq_append_getElem h]
  intro x hx
  rcases List.mem_append.1 hx with hx | hx
  · exact hn x hx
  · rw [List.mem_singleton.1 hx]; exact hp
theorem idxI_take {α : Type} {p : α → Bool} {l : List α} {k : Nat} (h : k < l.length) (hn : ∀ x ∈ l.take k, p x = false) (hp : p l[k] = true) : idxI p l = k :=
  idxI_at h (fun i hi hk => hn _ (by rw [List.mem_take_iff_getElem]; exact ⟨i, by omega, rfl⟩)) hp
theorem idxI_all {α : Type} {p : α → Bool} {l : List α} {k : Nat} (h : l.length ≤ k) (hn : ∀ x ∈ l.take k, p x = false) : idxI p l = -1 := by
  rw [List.take_of_length_le h] at hn
  exact idxI_no hn

set_option maxHeartbeats 1000000 in
theorem ref_in_any (a : Option Addr) (n c B : Nat) (l : List ByteArray) (s : ByteArray) (w : World) (h : Lst w (· < B) strP 1 (.slice a n c) l) :
    Calls Try.prog 93 #[.slice a n c, .string s] w fun e w' => e = .returned (.bool (inB l s)) ∧ w = w' := by
  obtain ⟨hl, hc, hm⟩ := h.len
  unfold maxLen at hm
  have HL := Lib.hid hl; clear hl
  have HH := Lib.hid h; clear h
  go_enter Try.func93, Try.ntmps93
  go_wp2
  go_loop [5] (fun i => ∃ k : Nat, k ≤ n ∧ i = .int .i64 k ∧ Hid (∀ x ∈ l.take k, eqT x s = false)) (fun i => n - (intOf i).toNat)
  case atStart => exact ⟨0, Nat.zero_le _, rfl, Lib.hid (by simp)⟩
  case round =>
    obtain ⟨k, hk, rfl, hn⟩ := hrel
    by_cases hlt : k < n
    · have lk : k < l.length := by rw [HL.out]; exact hlt
      obtain ⟨b, o, x, rfl, _, hx, hcl⟩ := HH.out.at lk
      have hck := hcl 0 (.string l[k]) (by rw [hx]; rfl)
      have hyes : eqT l[k] s = true → inB l s = true := fun h => List.any_eq_true.2 ⟨_, List.getElem_mem lk, h⟩
      have hno := fun h => take_any_succ lk hn.out h
      have k0 : (0 : Int) ≤ (k : Int) := by omega
      have k1 : (k : Int) < (n : Int) := by omega
      clear hcl hx
      generalize l[k] = y at *
      rw [Nat.mul_one, Nat.add_zero] at hck
      by_cases hm2 : eqT y s = true
      · have HY := Lib.hid (hyes hm2)
        have hq : (y.toList == s.toList) = true := hm2
        clear hyes hno hm2
        go_wp2_with fail
        go_ret
        exact ⟨by rw [HY.out]; rfl, rfl⟩
      · have hq : (y.toList == s.toList) = false := by simpa [eqT] using hm2
        have HN := Lib.hid (hno hq)
        clear hyes hno hm2
        go_wp2_with fail
        go_round
        case rel => exact ⟨k + 1, by omega, by go_num, HN⟩
        case measure => simp [intOf]; omega
    · have hf : inB l s = false := by
        have := hn.out
        rw [List.take_of_length_le (by rw [HL.out]; omega)] at this
        exact List.any_eq_false.2 (fun x hx => by simp [this x hx])
      have HF := Lib.hid hf; clear hf
      go_wp2
      go_ret
      exact ⟨by rw [HF.out]; rfl, rfl⟩
-- GEN

theorem toList_get {s : ByteArray} {k : Nat} (h : k < s.size) : s.toList[k]'(by rw [ByteArray.toList_eq]; exact h) = s[k] := by
  simp only [ByteArray.toList_eq]
  rfl
theorem toList_len (s : ByteArray) : s.toList.length = s.size := by rw [ByteArray.toList_eq]; rfl
theorem nameB_no {s : ByteArray} (h : ¬ (1 ≤ s.size ∧ s.size ≤ 16)) : nameB s = false := by unfold nameB; rw [decide_eq_false h]; rfl
theorem nameB_first {s : ByteArray} (h : 0 < s.size) (hl : lettB s[0] = false) : nameB s = false := by
  unfold nameB
  have : s.toList.headD 0 = s[0] := by rw [List.headD_eq_head?_getD, List.head?_eq_getElem?, List.getElem?_eq_getElem (by rw [toList_len]; exact h)]; exact toList_get h
  rw [this, hl]
  simp
theorem nameB_at {s : ByteArray} {k : Nat} (h : k < s.size) (hl : nameC s[k] = false) : nameB s = false := by
  unfold nameB
  have : s.toList.all nameC = false := by
    rw [List.all_eq_false]
    exact ⟨s[k], by rw [← toList_get h]; exact List.getElem_mem _, by rw [hl]; simp⟩
  rw [this]
  simp
theorem nameB_all {s : ByteArray} (h1 : 1 ≤ s.size) (h2 : s.size ≤ 16) (hl : lettB s[0] = true) (ha : ∀ k (h : k < s.size), nameC s[k] = true) : nameB s = true := by
  unfold nameB
  have e : s.toList.headD 0 = s[0] := by rw [List.headD_eq_head?_getD, List.head?_eq_getElem?, List.getElem?_eq_getElem (by rw [toList_len]; exact h1)]; exact toList_get h1
  rw [e, hl, decide_eq_true ⟨h1, h2⟩]
  have : s.toList.all nameC = true := by
    rw [List.all_eq_true]
    intro x hx
    obtain ⟨k, hk, rfl⟩ := List.mem_iff_getElem.1 hx
    rw [toList_len] at hk
    rw [toList_get hk]
    exact ha k hk
  rw [this]
  rfl
theorem lett_yes {c : UInt8} (h1 : 97 ≤ (c.toNat : Int)) (h2 : (c.toNat : Int) ≤ 122) : lettB c = true := by unfold lettB; rw [decide_eq_true_eq]; omega
theorem lett_no {c : UInt8} (h : ¬ (97 ≤ (c.toNat : Int) ∧ (c.toNat : Int) ≤ 122)) : lettB c = false := by unfold lettB; rw [decide_eq_false_iff_not]; omega
theorem nameC_yes {c : UInt8} (h : (97 ≤ (c.toNat : Int) ∧ (c.toNat : Int) ≤ 122) ∨ (48 ≤ (c.toNat : Int) ∧ (c.toNat : Int) ≤ 57) ∨ (c.toNat : Int) = 95) : nameC c = true := by
  unfold nameC lettB
  simp only [Bool.or_eq_true, decide_eq_true_eq]
  omega
theorem nameC_no {c : UInt8} (h1 : ¬ (97 ≤ (c.toNat : Int) ∧ (c.toNat : Int) ≤ 122)) (h2 : ¬ (48 ≤ (c.toNat : Int) ∧ (c.toNat : Int) ≤ 57)) (h3 : ¬ (c.toNat : Int) = 95) : nameC c = false := by
  unfold nameC lettB
  simp only [Bool.or_eq_false_iff, decide_eq_false_iff_not]
  omega

set_option maxHeartbeats 4000000 in
theorem ref_name_any (s : ByteArray) (w : World) :
    Calls Try.prog 13 #[.string s] w fun e w' => e = .returned (.bool (nameB s)) ∧ w = w' := by
  by_cases h12 : 1 ≤ s.size ∧ s.size ≤ 16
  · obtain ⟨h1, h2⟩ := h12
    have h0 : 0 < s.size := h1
    have i1 : (1 : Int) ≤ (s.size : Int) := by omega
    have i2 : (s.size : Int) ≤ 16 := by omega
    have hsz : s.size = s.size := rfl
    have hyes := fun h => nameB_all h1 h2 h
    have hfst := fun h => nameB_first h0 h
    by_cases hc : 97 ≤ (s[0].toNat : Int) ∧ (s[0].toNat : Int) ≤ 122
    · have HY := Lib.hid (hyes (lett_yes hc.1 hc.2))
      obtain ⟨hc1, hc2⟩ := hc
      clear hyes hfst
      go_enter Try.func13, Try.ntmps13
      go_wp2_with fail
      go_loop [3] (fun i => ∃ k : Nat, k ≤ s.size ∧ i = .int .i64 k ∧ Hid (∀ j (h : j < s.size), j < k → nameC s[j] = true)) (fun i => s.size - (intOf i).toNat)
      case atStart => exact ⟨0, Nat.zero_le _, rfl, Lib.hid (fun _ _ h => by omega)⟩
      case round =>
        obtain ⟨k, hk, rfl, hn⟩ := hrel
        by_cases hlt : k < s.size
        · have hno := fun h => nameB_at hlt h
          have hst : nameC s[k] = true → ∀ j (h : j < s.size), j < k + 1 → nameC s[j] = true := fun h j hj hjk => by
            by_cases e : j = k
            · subst e; exact h
            · exact hn.out j hj (by omega)
          have k0 : (0 : Int) ≤ (k : Int) := by omega
          have k1 : (k : Int) < (s.size : Int) := by omega
          by_cases hx1 : 97 ≤ (s[k].toNat : Int) ∧ (s[k].toNat : Int) ≤ 122
          · have HS := Lib.hid (hst (nameC_yes (.inl hx1)))
            obtain ⟨y1, y2⟩ := hx1
            clear hst hno hn
            go_wp2_with fail
            go_round
            case rel => exact ⟨k + 1, by omega, by go_num, HS⟩
            case measure => simp [intOf]; omega
          · by_cases hx2 : 48 ≤ (s[k].toNat : Int) ∧ (s[k].toNat : Int) ≤ 57
            · have HS := Lib.hid (hst (nameC_yes (.inr (.inl hx2))))
              obtain ⟨y1, y2⟩ := hx2
              have y3 : (s[k].toNat : Int) < 97 := by omega
              clear hst hno hn
              go_wp2_with fail
              go_round
              case rel => exact ⟨k + 1, by omega, by go_num, HS⟩
              case measure => simp [intOf]; omega
            · by_cases hx3 : (s[k].toNat : Int) = 95
              · have HS := Lib.hid (hst (nameC_yes (.inr (.inr hx3))))
                clear hst hno hn hx1 hx2
                go_wp2_with fail
                go_round
                case rel => exact ⟨k + 1, by omega, by go_num, HS⟩
                case measure => simp [intOf]; omega
              · have HF := Lib.hid (hno (nameC_no hx1 hx2 hx3))
                have hx4 : ((s[k].toNat : Int) == 95) = false := by simpa using hx3
                have hx7 : ((s[k].toNat : Int) != 95) = true := by simpa using hx3
                have hx5 : (s[k].toNat : Int) < 48 ∨ (57 < (s[k].toNat : Int) ∧ (s[k].toNat : Int) < 97) ∨ 122 < (s[k].toNat : Int) := by omega
                clear hst hno hn hx1 hx2
                rcases hx5 with hx5 | ⟨hx5, hx6⟩ | hx5
                all_goals
                  go_wp2_with fail
                  all_goals (first | (exfalso; omega) | (exfalso; simp_all; omega) | (go_ret; exact ⟨by rw [HF.out]; rfl, rfl⟩))
        · have hk' : k = s.size := by omega
          have hf := HY.out fun j hj => hn.out j hj (by omega)
          have HF := Lib.hid hf
          clear hf
          go_wp2_with fail
          go_ret
          exact ⟨by rw [HF.out]; rfl, rfl⟩
    · have HF := Lib.hid (hfst (lett_no hc))
      clear hyes hfst
      go_enter Try.func13, Try.ntmps13
      go_wp2_with fail
      all_goals (first | (exfalso; omega) | (go_ret; exact ⟨by rw [HF.out]; rfl, rfl⟩))
  · have HF := Lib.hid (nameB_no h12)
    go_enter Try.func13, Try.ntmps13
    go_wp2_with fail
    all_goals (first | (exfalso; omega) | (go_ret; exact ⟨by rw [HF.out]; rfl, rfl⟩))

set_option maxHeartbeats 1000000 in
theorem ref_column_any (a : Option Addr) (n c B : Nat) (l : List Col) (s : ByteArray) (w : World) (h : Lst w (· < B) colP 3 (.slice a n c) l) :
    Calls Try.prog 86 #[.slice a n c, .string s] w fun e w' => e = .returned (.int .i64 (colI l s)) ∧ w = w' := by
  obtain ⟨hl, hc, hm⟩ := h.len
  unfold maxLen at hm
  have HL := Lib.hid hl; clear hl
  have HH := Lib.hid h; clear h
  go_enter Try.func86, Try.ntmps86
  go_wp2
  go_loop [5] (fun i => ∃ k : Nat, k ≤ n ∧ i = .int .i64 k ∧ Hid (∀ x ∈ l.take k, eqT x.name s = false)) (fun i => n - (intOf i).toNat)
  case atStart => exact ⟨0, Nat.zero_le _, rfl, Lib.hid (by simp)⟩
  case round =>
    obtain ⟨k, hk, rfl, hn⟩ := hrel
    by_cases hlt : k < n
    · have lk : k < l.length := by rw [HL.out]; exact hlt
      obtain ⟨b, o, x, rfl, _, hx, hcl⟩ := HH.out.at lk
      have hck := hcl 0 (.string l[k].name) (by rw [hx]; rfl)
      have hyes : eqT l[k].name s = true → colI l s = k := fun h => idxI_take lk hn.out h
      have hno := fun h => take_any_succ (p := fun x => eqT x.name s) lk hn.out h
      have k0 : (0 : Int) ≤ (k : Int) := by omega
      have k1 : (k : Int) < (n : Int) := by omega
      clear hcl hx
      generalize l[k].name = y at *
      rw [Nat.add_zero] at hck
      by_cases hm2 : eqT y s = true
      · have HY := Lib.hid (hyes hm2)
        have hq : (y.toList == s.toList) = true := hm2
        clear hyes hno hm2
        go_wp2_with fail
        go_ret
        exact ⟨by rw [HY.out]; rfl, rfl⟩
      · have hq : (y.toList == s.toList) = false := by simpa [eqT] using hm2
        have HN := Lib.hid (hno hq)
        clear hyes hno hm2
        go_wp2_with fail
        go_round
        case rel => exact ⟨k + 1, by omega, by go_num, HN⟩
        case measure => simp [intOf]; omega
    · have HF := Lib.hid (show colI l s = -1 from idxI_all (by rw [HL.out]; omega) hn.out)
      go_wp2
      go_ret
      exact ⟨by rw [HF.out]; rfl, rfl⟩

set_option maxHeartbeats 1000000 in
theorem ref_rule_any (a : Option Addr) (n c B : Nat) (l : List Rul) (s : ByteArray) (w : World) (h : Lst w (· < B) (rulP w (· < B)) 8 (.slice a n c) l) :
    Calls Try.prog 103 #[.slice a n c, .string s] w fun e w' => e = .returned (.int .i64 (rulI l s)) ∧ w = w' := by
  obtain ⟨hl, hc, hm⟩ := h.len
  unfold maxLen at hm
  have HL := Lib.hid hl; clear hl
  have HH := Lib.hid h; clear h
  go_enter Try.func103, Try.ntmps103
  go_wp2
  go_loop [5] (fun i => ∃ k : Nat, k ≤ n ∧ i = .int .i64 k ∧ Hid (∀ x ∈ l.take k, eqT x.name s = false)) (fun i => n - (intOf i).toNat)
  case atStart => exact ⟨0, Nat.zero_le _, rfl, Lib.hid (by simp)⟩
  case round =>
    obtain ⟨k, hk, rfl, hn⟩ := hrel
    by_cases hlt : k < n
    · have lk : k < l.length := by rw [HL.out]; exact hlt
      obtain ⟨b, o, x, rfl, _, hx, hcl⟩ := HH.out.at lk
      have hck := hcl 0 (.string l[k].name) (by obtain ⟨v, rfl, _⟩ := hx; rfl)
      have hyes : eqT l[k].name s = true → rulI l s = k := fun h => idxI_take lk hn.out h
      have hno := fun h => take_any_succ (p := fun x => eqT x.name s) lk hn.out h
      have k0 : (0 : Int) ≤ (k : Int) := by omega
      have k1 : (k : Int) < (n : Int) := by omega
      clear hcl hx
      generalize l[k].name = y at *
      rw [Nat.add_zero] at hck
      by_cases hm2 : eqT y s = true
      · have HY := Lib.hid (hyes hm2)
        have hq : (y.toList == s.toList) = true := hm2
        clear hyes hno hm2
        go_wp2_with fail
        go_ret
        exact ⟨by rw [HY.out]; rfl, rfl⟩
      · have hq : (y.toList == s.toList) = false := by simpa [eqT] using hm2
        have HN := Lib.hid (hno hq)
        clear hyes hno hm2
        go_wp2_with fail
        go_round
        case rel => exact ⟨k + 1, by omega, by go_num, HN⟩
        case measure => simp [intOf]; omega
    · have HF := Lib.hid (show rulI l s = -1 from idxI_all (by rw [HL.out]; omega) hn.out)
      go_wp2
      go_ret
      exact ⟨by rw [HF.out]; rfl, rfl⟩

theorem size_box (w : World) (o : Obj) : (w.alloc o).heap.size = w.heap.size + 1 := by simp
theorem box_at2 (w : World) (x0 x1 : Value) (t : TypeId) : ∀ (j : Nat) v, [x0, x1][j]? = some v → (w.alloc (.cells #[x0, x1] t)).cell? ⟨w.heap.size, j, none⟩ = some v := by
  intro j v hj
  rw [cell_of_row _ _ _ _ _ _ (heap_alloc_new w _)]
  simpa using hj

/-- A box of two cells. -/
theorem box_two (w : World) (u v : Value) (t : TypeId) : (w.alloc (.cells #[u, v] t)).cell? ⟨w.heap.size, 0, none⟩ = some u ∧ (w.alloc (.cells #[u, v] t)).cell? ⟨w.heap.size, 1, none⟩ = some v :=
  ⟨by rw [cell_of_row _ _ _ _ _ _ (heap_alloc_new w _)]; rfl, by rw [cell_of_row _ _ _ _ _ _ (heap_alloc_new w _)]; rfl⟩
theorem keeps_alloc (w : World) (B : Nat) (o : Obj) : Keeps (· < B) w (w.alloc o) := Keeps.refl.alloc o

set_option maxHeartbeats 1000000 in
theorem ref_schema_any (B : Nat) (vs vt : Value) (o : Objs) (s : ByteArray) (w : World) (h : objP w (· < B) [vs, vt] o) :
    Calls Try.prog 67 #[.agg #[vs, vt], .string s] w fun e w' => e = .returned (.int .i64 (schI o.schemas s)) ∧ Gr w w' := by
  obtain ⟨vs', vt', hv, hs, ht⟩ := h
  simp only [List.cons.injEq, and_true] at hv
  obtain ⟨rfl, rfl⟩ := hv
  obtain ⟨a, c, rfl, hc, hm⟩ := hs.form
  obtain ⟨n, hl⟩ : ∃ n, o.schemas.length = n := ⟨_, rfl⟩
  rw [hl] at hs hc
  unfold maxLen at hm
  have hb := box_two w (.slice a n c) vt 26
  have hs' := schs_keep hs (fun _ h => h) (keeps_alloc w B (.cells #[.slice a n c, vt] 26))
  have hbel := Gr.alloc w (.cells #[.slice a n c, vt] 26)
  rw [hl]
  generalize o.schemas = l at *
  have HL := Lib.hid hl; clear hl hs ht
  have HH := Lib.hid hs'; clear hs'
  go_enter Try.func67, Try.ntmps67
  go_wp2
  generalize World.alloc w _ = w1 at *
  obtain ⟨hb0, hb1⟩ := hb
  go_loop [5] (fun i => ∃ k : Nat, k ≤ n ∧ i = .int .i64 k ∧ Hid (∀ x ∈ l.take k, eqT x.name s = false)) (fun i => n - (intOf i).toNat)
  case atStart => exact ⟨0, Nat.zero_le _, rfl, Lib.hid (by simp)⟩
  case round =>
    obtain ⟨k, hk, rfl, hn⟩ := hrel
    by_cases hlt : k < n
    · have lk : k < l.length := by rw [HL.out]; exact hlt
      obtain ⟨b, o, x, rfl, _, hx, hcl⟩ := HH.out.at lk
      have hck := hcl 0 (.string l[k].name) (by rw [hx]; rfl)
      have hyes : eqT l[k].name s = true → schI l s = k := fun h => idxI_take lk hn.out h
      have hno := fun h => take_any_succ (p := fun x => eqT x.name s) lk hn.out h
      have k0 : (0 : Int) ≤ (k : Int) := by omega
      have k1 : (k : Int) < (n : Int) := by omega
      clear hcl hx
      generalize l[k].name = y at *
      rw [Nat.add_zero] at hck
      by_cases hm2 : eqT y s = true
      · have HY := Lib.hid (hyes hm2)
        have hq : (y.toList == s.toList) = true := hm2
        clear hyes hno hm2
        go_wp2_with fail
        go_ret
        exact ⟨by rw [HY.out]; rfl, hbel⟩
      · have hq : (y.toList == s.toList) = false := by simpa [eqT] using hm2
        have HN := Lib.hid (hno hq)
        clear hyes hno hm2
        go_wp2_with fail
        go_round
        case rel => exact ⟨k + 1, by omega, by go_num, HN⟩
        case measure => simp [intOf]; omega
    · have HF := Lib.hid (show schI l s = -1 from idxI_all (by rw [HL.out]; omega) hn.out)
      go_wp2
      go_ret
      exact ⟨by rw [HF.out]; rfl, hbel⟩
end Go.Proofs.Ytkghkioghkapcaa
