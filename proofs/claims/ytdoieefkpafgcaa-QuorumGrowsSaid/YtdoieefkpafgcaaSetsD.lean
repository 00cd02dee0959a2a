/-
  Sets: With, Without, Both, Common: the program's, by contract.
-/
import Derived.Test.YtdoieefkpafgcaaSetsC
import Derived.Test.YtdoieefkpafgcaaCellNew
namespace Go.Proofs.Ytdoieefkpafgcaa
open Go.RowKit

theorem length_pick_le {ws : List Nat} {ps : List (Int × Nat)} {k : Nat} : (pick ws (ps.take k)).length ≤ k := Nat.le_trans (length_pick _ _) (List.length_take_le _ _)
theorem pcs_get0 (ps : List (Int × Nat)) (k : Nat) (h : k < ps.length) (h2 : k * 2 < (pcs ps).length) : (pcs ps)[k * 2] = .int .i64 (ps[k]).1 := by
  induction ps generalizing k with
  | nil => simp at h
  | cons p r ih =>
    cases k with
    | zero => rfl
    | succ k =>
      have h3 : k < r.length := by simpa using h
      have := ih k h3 (by rw [length_pcs]; omega)
      simp only [pcs, List.flatMap_cons, List.getElem_cons_succ] at *
      rw [List.getElem_append_right (by simp [pcell]; omega)]
      simp only [pcell, List.length_cons, List.length_nil]
      rw [← this]
      congr 1
      omega
theorem pcs_get1 (ps : List (Int × Nat)) (k : Nat) (h : k < ps.length) (h2 : k * 2 + 1 < (pcs ps).length) : (pcs ps)[k * 2 + 1] = .int .u64 ((ps[k]).2 : Int) := by
  induction ps generalizing k with
  | nil => simp at h
  | cons p r ih =>
    cases k with
    | zero => rfl
    | succ k =>
      have h3 : k < r.length := by simpa using h
      have := ih k h3 (by rw [length_pcs]; omega)
      simp only [pcs, List.flatMap_cons, List.getElem_cons_succ] at *
      rw [List.getElem_append_right (by simp [pcell]; omega)]
      simp only [pcell, List.length_cons, List.length_nil]
      rw [← this]
      congr 1
      omega
theorem pick_take_in {ws : List Nat} {ps : List (Int × Nat)} {k : Nat} (h : k < ps.length) (hm : decide (ps[k].2 ∈ ws) = true) : pick ws (ps.take (k + 1)) = pick ws (ps.take k) ++ [ps[k].1] := by
  rw [List.take_succ_eq_append_getElem h, pick_snoc, if_pos (by simpa using hm)]
theorem pick_take_out {ws : List Nat} {ps : List (Int × Nat)} {k : Nat} (h : k < ps.length) (hm : decide (ps[k].2 ∈ ws) = false) : pick ws (ps.take (k + 1)) = pick ws (ps.take k) := by
  rw [List.take_succ_eq_append_getElem h, pick_snoc, if_neg (by simpa using hm), List.append_nil]

/-- What a row of the call's own reads as, elements of any size. -/
theorem rd_own {w : World} {base : Nat} {e : TypeId} {size : Nat} {v : Value} {n : Nat} {xs : List Value} (h : w.ownsRow base e size v n xs) : ∃ a cap, v = .slice a n cap ∧ Rd w w.heap.size a xs := by
  have hl := h.1
  rcases h.2 with ⟨rfl, rfl⟩ | ⟨g, cap, cur, rfl, hb, hg, hc, hm, hs, ht⟩
  · exact ⟨none, 0, rfl, .inl (List.eq_nil_of_length_eq_zero (by omega))⟩
  · refine ⟨_, cap, rfl, .inr ⟨g, 0, rfl, lt_of_some hg, fun i hi => ?_⟩⟩
    rw [cell_of_row w g (0 + i) cur e (0, 0) hg]
    have hi2 : i < cur.toList.length := by
      rw [← ht, List.length_take] at hi; omega
    subst ht
    simp at hi hi2
    simp [Array.getElem?_eq_getElem hi2]

theorem rd_pair (w : World) (x y : Value) (t : TypeId) : Rd (w.alloc (.cells #[x, y] t)) (w.heap.size + 1) (some ⟨w.heap.size, 0, none⟩) [x, y] := by
  have h := Rd.row (off := 0) (n := 2) (L := [x, y]) (heap_alloc_new w (.cells #[x, y] t)) (Nat.lt_succ_self _) (by simp)
  exact h
/-- A set and a code. -/
def SetPost (E : Int) (V : List Int) (w : World) (e : Ending) (w' : World) : Prop :=
  ∃ o, e = .returned (.tuple #[o, .int .i64 E]) ∧ w'.ownsRow w.heap.size 3 1 o V.length (ci V) ∧ Below w.heap.size w w'
theorem setPost_none {E : Int} {V : List Int} {w w' : World} (hV : V = []) (hb : Below w.heap.size w w') (E' : Int) (hE : E' = E) : SetPost E V w (.returned (.tuple #[.slice none 0 0, .int .i64 E'])) w' := by
  subst hV
  subst hE
  exact ⟨_, rfl, World.ownsRow_nil _ _ _ _, hb⟩
theorem SetPost.under {E : Int} {V : List Int} {w w1 w' : World} {e : Ending} (h : SetPost E V w1 e w') (hb : Below w.heap.size w w1) : SetPost E V w e w' := by
  obtain ⟨o, he, ho, hb2⟩ := h
  exact ⟨o, he, World.ownsRow.mono ho hb.size, hb.trans (hb2.mono hb.size)⟩
theorem bothE_arg1 {a b : List Int} (h : isS a = false) : bothE a b = 1 := by simp [bothE, h]
theorem bothE_arg2 {a b : List Int} (h : isS b = false) : bothE a b = 1 := by simp [bothE, h]
theorem bothE_big {a b : List Int} (ha : isS a = true) (hb : isS b = true) (h : 16 < (mrg a b).length) : bothE a b = 2 := by
  rw [length_uni (isS_iff.1 ha).1 (isS_iff.1 hb).1] at h
  simp [bothE, ha, hb, h]
theorem bothE_ok {a b : List Int} (ha : isS a = true) (hb : isS b = true) (h : ¬ 16 < (mrg a b).length) : bothE a b = 0 := by
  rw [length_uni (isS_iff.1 ha).1 (isS_iff.1 hb).1] at h
  simp [bothE, ha, hb, h]
theorem bothV_no {a b : List Int} {E : Int} (h : bothE a b = E) (hE : E ≠ 0) : bothV a b = [] := by
  subst h; exact if_neg hE
theorem bothV_ok {a b : List Int} (ha : isS a = true) (hb : isS b = true) (h : bothE a b = 0) : bothV a b = pick [1, 2, 3] (mrg a b) := by
  rw [pick_all (isS_iff.1 ha).1 (isS_iff.1 hb).1]; exact if_pos h
theorem commonE_arg1 {a b : List Int} (h : isS a = false) : commonE a b = 1 := by simp [commonE, h]
theorem commonE_arg2 {a b : List Int} (h : isS b = false) : commonE a b = 1 := by simp [commonE, h]
theorem commonE_ok {a b : List Int} (ha : isS a = true) (hb : isS b = true) : commonE a b = 0 := by simp [commonE, ha, hb]
theorem commonV_no {a b : List Int} {E : Int} (h : commonE a b = E) (hE : E ≠ 0) : commonV a b = [] := by
  subst h; exact if_neg hE
theorem commonV_ok {a b : List Int} (ha : isS a = true) (hb : isS b = true) : commonV a b = pick [3] (mrg a b) := by
  rw [pick_both (isS_iff.1 ha).1 (isS_iff.1 hb).1]; exact if_pos (commonE_ok ha hb)

theorem rd_row (w : World) (L : List Value) (t : TypeId) {n : Nat} (hn : L.length = n) : Rd (w.alloc (.cells L.toArray t)) (w.heap.size + 1) (some ⟨w.heap.size, 0, none⟩) L := by
  have h := Rd.row (off := 0) (n := n) (L := L) (heap_alloc_new w (.cells L.toArray t)) (Nat.lt_succ_self _) (by omega)
  rwa [List.drop_zero, List.take_of_length_le (by omega)] at h

theorem withoutV_ok {s : List Int} {n : Int} (h : isS s = true) : withoutV s n = pick [1] (mrg s [n]) := by
  rw [pick_first (isS_iff.1 h).1]; exact if_pos h
theorem withoutV_no {s : List Int} {n : Int} (h : isS s = false) : withoutV s n = [] := by simp [withoutV, h]
theorem withoutE_ok {s : List Int} (h : isS s = true) : withoutE s = 0 := by simp [withoutE, h]
theorem withoutE_no {s : List Int} (h : isS s = false) : withoutE s = 1 := by simp [withoutE, h]

end Go.Proofs.Ytdoieefkpafgcaa
