/-
  Rows of ints: lent with a mark behind them, given back, compared: by contract.
-/
import Derived.Test.YtkghkioghkapcaaProg
import Derived.Test.YtkghkioghkapcaaFrame
import Derived.Test.YtkghkioghkapcaaSetsM
import Derived.IntWalk
import Derived.BigQuiet
import Derived.Deep.QuietTactic
namespace Go.Proofs.Ytkghkioghkapcaa
open Go.RowKit

theorem size_int : (Try.prog.info? 3).map (·.size) = some 1 := by kernel_rfl
theorem info_num : (Try.prog.info? 3).map (fun i => (i.zero, i.size, i.bytes)) = some (some (.int .i64 0), 1, 8) := by kernel_rfl
theorem ci_append (a b : List Int) : ci (a ++ b) = ci a ++ ci b := by simp [ci]
theorem ci_one (zs : List Int) : ∀ v ∈ ci zs, v.oneCell' = true := by
  intro v hv
  simp only [ci, List.mem_map] at hv
  obtain ⟨z, _, rfl⟩ := hv
  rfl
theorem ci_drop (zs : List Int) (k : Nat) : (ci zs).drop k = ci (zs.drop k) := by simp [ci, List.map_drop]
theorem ci_take (zs : List Int) (k : Nat) : (ci zs).take k = ci (zs.take k) := by simp [ci, List.map_take]
theorem ci_get (zs : List Int) (k : Nat) (h : k < (ci zs).length) : (ci zs)[k] = .int .i64 (zs[k]'(by simpa using h)) := by simp [ci]
/-- 'n' noughts. -/
def zi (n : Nat) : List Value := List.replicate n (.int .i64 0)
@[simp] theorem length_zi (n : Nat) : (zi n).length = n := by simp [zi]
theorem made_zi (n : Nat) : madeCells #[.int .i64 0] n = (zi n).toArray := by
  apply Array.ext'
  rw [toList_madeCells_one]; rfl
theorem splice_zi {xs : List Value} {n : Nat} (h : xs.length = n) (room : Nat) : splice (zi (n + room)) 0 xs = xs ++ zi room := by
  simp [splice, zi, List.drop_replicate, h]
theorem run_make_ints (n : Int) (h0 : 0 ≤ n) (hle : n ≤ 1048576 * 4) (u : World) : (Instr.makeSlice 140 (.int .i64 n) (.int .i64 n)).run Try.prog u =
    .ok (.slice (some ⟨u.heap.size, 0, none⟩) n.toNat n.toNat) (u.alloc (.cells (zi n.toNat).toArray 3)) := by
  obtain ⟨i0, hi, hz0, hz1, hz2⟩ := info_parts info_num
  have h := run_make (P := Try.prog) u 140 3 i0 (.int .i64 0) Try.underlying140 hi hz0 .i64 .i64 n n h0 (Int.le_refl _) (by rw [hz2]; omega) (by omega)
  rw [hz1, Nat.mul_one] at h
  rw [h, ← made_zi]; rfl
theorem set_mark {zs : List Int} {n : Nat} (h : zs.length = n) : ((ci zs ++ zi 1).set n (.int .i64 (-77))) = ci (zs ++ [-77]) := by
  subst h
  rw [ci_append, List.set_append_right _ _ (by simp)]
  simp [zi, ci, List.replicate]

theorem below_drawn {B : Nat} {w w' : World} (h : Below B w w') (n : Nat) : Below B w (w'.drewN n) := h.trans ⟨rfl, rfl, rfl, Nat.le_refl _, fun _ _ => rfl⟩
/-- Two rows that are the same as far as place k, and there not, or not so long. -/
theorem take_same_succ {xs ys : List Int} {k : Nat} (h1 : k < xs.length) (h2 : k < ys.length) (h : xs.take k = ys.take k) (he : xs[k] = ys[k]) : xs.take (k + 1) = ys.take (k + 1) := by
  rw [List.take_succ_eq_append_getElem h1, List.take_succ_eq_append_getElem h2, h, he]
theorem ne_at {xs ys : List Int} {k : Nat} (h1 : k < xs.length) (h2 : k < ys.length) (he : ¬ xs[k] = ys[k]) : decide (xs = ys) = false := by
  simp only [decide_eq_false_iff_not]
  rintro rfl
  exact he rfl
theorem ne_len {xs ys : List Int} (h : xs.length ≠ ys.length) : decide (xs = ys) = false := by
  simp only [decide_eq_false_iff_not]
  rintro rfl
  exact h rfl
theorem same_all {xs ys : List Int} {k : Nat} (h : xs.take k = ys.take k) (h1 : xs.length ≤ k) (h2 : ys.length ≤ k) : decide (xs = ys) = true := by
  rw [List.take_of_length_le h1, List.take_of_length_le h2] at h
  simpa using h

theorem lt_of_some {w : World} {g : Nat} {o : Obj} (h : w.heap[g]? = some o) : g < w.heap.size := by
  rcases Nat.lt_or_ge g w.heap.size with hlt | hge
  · exact hlt
  · rw [Array.getElem?_eq_none hge] at h; cases h

end Go.Proofs.Ytkghkioghkapcaa
