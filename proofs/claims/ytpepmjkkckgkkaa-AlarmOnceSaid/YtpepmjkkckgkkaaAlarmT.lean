/-
  What a clock does, whatever it is made of; layer 6's first example.
-/
import Derived.Test.YtpepmjkkckgkkaaAlarmD
import Derived.Test.YtpepmjkkckgkkaaIntsLent
namespace Go.Proofs.Ytpepmjkkckgkkaa
open Go.RowKit

/-- What a call may turn: the blocks of which F holds, and new ones; behind it they are F'. -/
def Moved (F F' : Nat → Prop) (w w' : World) : Prop := Keeps (fun k => ¬ F k) w w' ∧ ∀ k, F' k → F k ∨ w.heap.size ≤ k
theorem Moved.below {F F' : Nat → Prop} {w w' : World} (h : Moved F F' w w') {B : Nat} (hF : ∀ k, F k → B ≤ k) (hB : B ≤ w.heap.size) : Below B w w' := h.1.below hB (fun k hk hf => by have := hF k hf; omega)
theorem Moved.up {F F' : Nat → Prop} {w w' : World} (h : Moved F F' w w') {B : Nat} (hF : ∀ k, F k → B ≤ k) (hB : B ≤ w.heap.size) : ∀ k, F' k → B ≤ k := by
  intro k hk
  rcases h.2 k hk with h | h
  · exact hF k h
  · omega

/-- A number that an int can hold. -/
def I64 (x : Int) : Prop := (Lit.int .i64 x).wf = true
theorem i64_of {x : Int} (h : -9223372036854775808 ≤ x) (h2 : x < 9223372036854775808) : I64 x := by
  have e1 : IntKind.i64.min = -9223372036854775808 := by decide
  have e2 : IntKind.i64.max = 9223372036854775807 := by decide
  show (decide (IntKind.i64.min ≤ x) && decide (x ≤ IntKind.i64.max)) = true
  rw [e1, e2, Bool.and_eq_true, decide_eq_true_eq, decide_eq_true_eq]
  omega

/-- K w F p S: in the world w the clock at p, whose blocks are those of F, has set just what S says. -/
structure Ticks (K : World → (Nat → Prop) → Addr → List Due → Prop) : Prop where
  keep : ∀ {w w' F p S}, K w F p S → Keeps F w w' → K w' F p S
  lt : ∀ {w F p S}, K w F p S → ∀ k, F k → k < w.heap.size
  rise : ∀ {w F p S}, K w F p S → Rise S ∧ Once S
  new : ∀ w, Calls Try.prog 7 #[] w fun e w' => ∃ p F, e = .returned (.pointer (some p)) ∧ K w' F p [] ∧ Below w.heap.size w w' ∧ ∀ k, F k → w.heap.size ≤ k
  set : ∀ w F p S (id t : Int), I64 id → K w F p S → S.length ≤ 1000 → Calls Try.prog 8 #[.pointer (some p), .int .i64 id, .int .i64 t] w fun e w' => e = .returned (.int .i64 0) ∧ ∃ F', K w' F' p (setD id t S) ∧ Moved F F' w w'
  clear : ∀ w F p S (id : Int), I64 id → K w F p S → S.length ≤ 1000 → Calls Try.prog 10 #[.pointer (some p), .int .i64 id] w fun e w' => e = .returned (.int .i64 (if hasD id S then 0 else 50)) ∧ ∃ F', K w' F' p (offD id S) ∧ Moved F F' w w'
  next : ∀ w F p S, K w F p S → S.length ≤ 1000 → Calls Try.prog 15 #[.pointer (some p)] w fun e w' => e = .returned (.tuple (nextV S)) ∧ ∃ F', K w' F' p S ∧ Moved F F' w w'
  due : ∀ w F p S (now : Int), K w F p S → S.length ≤ 1000 → Calls Try.prog 12 #[.pointer (some p), .int .i64 now] w fun e w' =>
    ∃ o F', e = .returned o ∧ w'.ownsRow w.heap.size 3 1 o (dueN now S) (ci (ids (S.take (dueN now S)))) ∧ K w' F' p (S.drop (dueN now S)) ∧ Moved F F' w w' ∧ ∀ g, o.ownBlock = some g → ¬ F' g
  len : ∀ w F p S, K w F p S → S.length ≤ 1000 → Calls Try.prog 17 #[.pointer (some p)] w fun e w' => e = .returned (.int .i64 (S.length : Int)) ∧ ∃ F', K w' F' p S ∧ Moved F F' w w'

theorem own_rd {w : World} {base : Nat} {e : TypeId} {v : Value} {n : Nat} {xs : List Value} (h : w.ownsRow base e 1 v n xs) : ∃ a cap, v = .slice a n cap ∧ Rd w w.heap.size a xs := by
  by_cases h0 : n = 0
  · have hx : xs = [] := List.eq_nil_of_length_eq_zero (by have := h.1; omega)
    rcases h.2 with ⟨rfl, rfl⟩ | ⟨g, cap, cur, rfl, _⟩
    · exact ⟨none, 0, rfl, by rw [hx]; exact Rd.nil⟩
    · exact ⟨_, cap, rfl, by rw [hx]; exact Rd.nil⟩
  · obtain ⟨g, cap, rfl, hb, hg⟩ := h.form (by omega)
    refine ⟨_, cap, rfl, .inr ⟨g, 0, rfl, hg, fun i hi => ?_⟩⟩
    rw [Nat.zero_add, h.cellAt i (by have := h.1; omega)]
    exact List.getElem?_eq_getElem hi

theorem own_keeps {w w' : World} {S : Nat → Prop} {base : Nat} {e : TypeId} {size : Nat} {v : Value} {n : Nat} {xs : List Value} (h : w.ownsRow base e size v n xs) (hk : Keeps S w w') (hs : ∀ g, v.ownBlock = some g → S g) : w'.ownsRow base e size v n xs := by
  rcases h with ⟨hl, h | ⟨g, cap, cur, rfl, h2, h3, h4⟩⟩
  · exact ⟨hl, .inl h⟩
  · exact ⟨hl, .inr ⟨g, cap, cur, rfl, h2, hk.row h3 (hs g rfl), h4⟩⟩

theorem s1 : setD 3 10 [] = [(10, 3)] := by decide
theorem s2 : setD 1 10 [(10, 3)] = [(10, 1), (10, 3)] := by decide
theorem s3 : setD 2 5 [(10, 1), (10, 3)] = [(5, 2), (10, 1), (10, 3)] := by decide
theorem s4 : dueN 9 [(5, 2), (10, 1), (10, 3)] = 1 := by decide
theorem s5 : dueN 10 [(10, 1), (10, 3)] = 2 := by decide

set_option maxHeartbeats 1000000 in
theorem awake_shown {K : World → (Nat → Prop) → Addr → List Due → Prop} (Tk : Ticks K) (w : World) : Calls Try.prog 18 #[] w fun e w' => e = .returned (.bool true) ∧ Below w.heap.size w w' := by
  have HT := Lib.hid Tk; clear Tk
  go_enter Try.func18, Try.ntmps18
  go_wp2_with fail
  refine (HT.out.new w).mono ?_
  rintro e w1 ⟨p, F1, rfl, k1, b1, f1⟩
  go_wp2_with fail
  refine (HT.out.set w1 F1 p _ 3 10 (i64_of (by decide) (by decide)) k1 (by simp)).mono ?_
  rintro e w2 ⟨rfl, F2, k2, m2⟩
  rw [s1] at k2
  have b2 := b1.trans (m2.below f1 b1.size)
  have f2 := m2.up f1 b1.size
  clear b1 f1 m2 k1
  go_wp2_with fail
  refine (HT.out.set w2 F2 p _ 1 10 (i64_of (by decide) (by decide)) k2 (by simp)).mono ?_
  rintro e w3 ⟨rfl, F3, k3, m3⟩
  rw [s2] at k3
  have b3 := b2.trans (m3.below f2 b2.size)
  have f3 := m3.up f2 b2.size
  clear b2 f2 m3 k2
  go_wp2_with fail
  refine (HT.out.set w3 F3 p _ 2 5 (i64_of (by decide) (by decide)) k3 (by simp)).mono ?_
  rintro e w4 ⟨rfl, F4, k4, m4⟩
  rw [s3] at k4
  have b4 := b3.trans (m4.below f3 b3.size)
  have f4 := m4.up f3 b3.size
  clear b3 f3 m4 k3
  go_wp2_with fail
  refine (HT.out.next w4 F4 p _ k4 (by simp)).mono ?_
  rintro e w5 ⟨rfl, F5, k5, m5⟩
  have b5 := b4.trans (m5.below f4 b4.size)
  have f5 := m5.up f4 b4.size
  clear b4 f4 m5 k4
  simp only [nextV]
  go_wp2_with fail
  refine (HT.out.due w5 F5 p _ 9 k5 (by simp)).mono ?_
  rintro e w6 ⟨o6, F6, rfl, own6, k6, m6, n6⟩
  rw [s4] at own6 k6
  have b6 := b5.trans (m6.below f5 b5.size)
  have f6 := m6.up f5 b5.size
  clear b5 f5 m6 k5
  simp only [List.drop_succ_cons, List.drop_zero, List.take_succ_cons, List.take_zero, ids, List.map_cons, List.map_nil] at k6 own6
  go_wp2_with fail
  refine (HT.out.due w6 F6 p _ 10 k6 (by simp)).mono ?_
  rintro e w7 ⟨o7, F7, rfl, own7, k7, m7, _⟩
  rw [s5] at own7 k7
  have b7 := b6.trans (m7.below f6 b6.size)
  have f7 := m7.up f6 b6.size
  have own6' := own_keeps own6 m7.1 n6
  obtain ⟨a6, c6, rfl, r6⟩ := own_rd own6'
  obtain ⟨a7, c7, rfl, r7⟩ := own_rd own7
  simp only [List.drop_succ_cons, List.drop_zero, List.take_succ_cons, List.take_zero, ids, List.map_cons, List.map_nil] at k7 r7
  clear b6 f6 m7 k6 own6 own6' own7 n6
  have q2 := rd_rowI w7 [2] 3 (n := 1) rfl
  have r6' := r6.alloc (Nat.le_refl _) (.cells (ci [2]).toArray 3)
  have hI := ints_same a6 (some ⟨w7.heap.size, 0, none⟩) 1 c6 1 1 _ _ [2] [2] _ rfl rfl r6' q2 (by unfold maxLen; omega) (by unfold maxLen; omega)
  have HI := Lib.hid hI
  have b8 := b7.alloc b7.size (.cells (ci [2]).toArray 3)
  have r7' := r7.alloc (Nat.le_refl _) (.cells (ci [2]).toArray 3)
  have k8 := HT.out.keep k7 ((Keeps.refl (S := F7) (w := w7)).alloc (.cells (ci [2]).toArray 3))
  have hsz : w7.heap.size ≤ (w7.alloc (.cells (ci [2]).toArray 3)).heap.size := by simp
  clear hI q2 r6 r6' r7
  go_wp2_with fail
  refine HI.out.mono ?_
  rintro e w9 ⟨rfl, b9⟩
  have hd : (decide True) = true := rfl
  rw [hd]
  have k9 := HT.out.keep k8 (Keeps.of_below b9 (fun k hk => HT.out.lt k8 k hk))
  have b09 := b8.trans (b9.mono b8.size)
  have r9 := r7'.below b9 hsz
  have hs9 : w7.heap.size ≤ w9.heap.size := Nat.le_trans hsz b9.size
  have q3 := rd_rowI w9 [1, 3] 3 (n := 2) rfl
  have r9' := r9.alloc hs9 (.cells (ci [1, 3]).toArray 3)
  have hJ := ints_same a7 (some ⟨w9.heap.size, 0, none⟩) 2 c7 2 2 _ _ [1, 3] [1, 3] _ rfl rfl r9' q3 (by unfold maxLen; omega) (by unfold maxLen; omega)
  have HJ := Lib.hid hJ
  have b10 := b09.alloc b09.size (.cells (ci [1, 3]).toArray 3)
  have f9 : ∀ k, F7 k → w.heap.size ≤ k := f7
  have k10 := HT.out.keep k9 ((Keeps.refl (S := F7) (w := w9)).alloc (.cells (ci [1, 3]).toArray 3))
  clear hJ q3 r9 r9' r7' b7 b8 b9 k7 k8 k9 HI
  go_wp2_with fail
  refine HJ.out.mono ?_
  rintro e w11 ⟨rfl, b11⟩
  rw [hd]
  have k11 := HT.out.keep k10 (Keeps.of_below b11 (fun k hk => HT.out.lt k10 k hk))
  have b12 := b10.trans (b11.mono b10.size)
  clear HJ b09 b10 b11 k10
  go_wp2_with fail
  refine (HT.out.len w11 F7 p _ k11 (by simp)).mono ?_
  rintro e w12 ⟨rfl, F12, k12, m12⟩
  have b13 := b12.trans (m12.below f9 b12.size)
  rw [List.length_nil]
  go_wp2_with fail
  go_ret
  exact ⟨rfl, b13⟩
end Go.Proofs.Ytpepmjkkckgkkaa
