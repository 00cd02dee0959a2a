/-
  Sets: the least of two rows' next numbers; two rows merged: by contract.
-/
import Derived.Test.YtkghkioghkapcaaSetsA
import Derived.Maps.AppendAt
namespace Go.Proofs.Ytkghkioghkapcaa
open Go.RowKit

/-- Marks as cells. -/
def cu (ws : List Nat) : List Value := ws.map fun c : Nat => .int .u64 (c : Int)
@[simp] theorem length_cu (ws : List Nat) : (cu ws).length = ws.length := by simp [cu]
theorem cu_get (ws : List Nat) (k : Nat) (h : k < (cu ws).length) : (cu ws)[k] = .int .u64 ((ws[k]'(by simpa using h) : Nat) : Int) := by simp [cu]
theorem mark_take_succ {xs : List Nat} {k v : Nat} (h : k < xs.length) (hn : v ∉ xs.take k) (hv : ¬ xs[k] = v) : v ∉ xs.take (k + 1) := by
  rw [List.take_succ_eq_append_getElem h]
  intro hm
  rcases List.mem_append.1 hm with hm | hm
  · exact hn hm
  · exact hv (List.mem_singleton.1 hm).symm
theorem mark_at {xs : List Nat} {k v : Nat} (h : k < xs.length) (hv : xs[k] = v) : decide (v ∈ xs) = true := by
  subst hv; simp
theorem mark_not {xs : List Nat} {k v : Nat} (hn : v ∉ xs.take k) (h : xs.length ≤ k) : decide (v ∈ xs) = false := by
  rw [List.take_of_length_le h] at hn; simpa using hn

theorem box_at {w : World} {b : Nat} {cs : Array Value} {t : TypeId} (h : w.heap[b]? = some (.cells cs t (0, 0))) (i : Nat) {v : Value} (hv : cs[i]? = some v) : w.cell? ⟨b, i, none⟩ = some v := by
  rw [cell_of_row w b i cs t (0, 0) h]; exact hv
/-- A whole struct is stored into its box. -/
theorem wpList_store_box {P : Program} {ops : Array Oper} {rest : List Oper} {op : Oper} {a : Act} {w : World} {Q : Exit → Act → World → Prop} (hgd : op.guard = none) (ty : TypeId) (x y : Operand) (ho : op.op = .store ty x y)
    (g : Nat) (t : TypeId) (c c' : Array Value) (hx : a.eval x = .pointer (some ⟨g, 0, none⟩)) (hy : a.eval y = .agg c') (hg : w.heap[g]? = some (.cells c t (0, 0)))
    (hi : (P.info? ty).map (·.size) = some c'.size) (hs : c.size = c'.size) (h1 : c'.all (·.oneCell') = true)
    (h : wpList P ops Q rest (a.put op.dst undef) (w.setRow g c')) : wpList P ops Q (op :: rest) a w := by
  refine wpList_plain hgd fun _ hK => ?_
  unfold Oper.wp execOp
  simp only [ho, hx, hy, Instr.storeAt, Instr.sureAddr, Sem.run_bind, Sem.run_pure, Result.andThen_ok, run_storeVar_row w g t ty c c' hg hi hs h1]
  exact hK _ _ h
/-- The first row's next number, with its mark. -/
def fst1 : List Int → Int × Nat
  | [] => (0, 0)
  | x :: _ => (x, 1)
theorem fst1_no {xs : List Int} {p : Nat} (h : ¬ p < xs.length) : fst1 (xs.drop p) = (0, 0) := by rw [List.drop_eq_nil_of_le (by omega)]; rfl
theorem fst1_yes {xs : List Int} {p : Nat} (h : p < xs.length) : fst1 (xs.drop p) = (xs[p], 1) := by rw [List.drop_eq_getElem_cons h]; rfl
theorem lst_skip {xs ys : List Int} {p q : Nat} (h : ¬ q < ys.length) : lst (xs.drop p) (ys.drop q) = fst1 (xs.drop p) := by
  have e : ys.drop q = [] := List.drop_eq_nil_of_le (by omega)
  rw [e]
  cases xs.drop p <;> rfl
theorem lst_only {xs ys : List Int} {p q : Nat} (hp : ¬ p < xs.length) (h : q < ys.length) : lst (xs.drop p) (ys.drop q) = (ys[q], 2) := by
  have e : xs.drop p = [] := List.drop_eq_nil_of_le (by omega)
  rw [e, List.drop_eq_getElem_cons h]; rfl
theorem lst_less {xs ys : List Int} {p q : Nat} (hp : p < xs.length) (h : q < ys.length) (hlt : ys[q] < xs[p]) : lst (xs.drop p) (ys.drop q) = (ys[q], 2) := by
  rw [List.drop_eq_getElem_cons hp, List.drop_eq_getElem_cons h]; simp [lst, hlt]
theorem lst_same {xs ys : List Int} {p q : Nat} (hp : p < xs.length) (h : q < ys.length) (he : ys[q] = xs[p]) : lst (xs.drop p) (ys.drop q) = (xs[p], 3) := by
  rw [List.drop_eq_getElem_cons hp, List.drop_eq_getElem_cons h]; simp [lst, he]
theorem lst_more {xs ys : List Int} {p q : Nat} (hp : p < xs.length) (h : q < ys.length) (hlt : xs[p] < ys[q]) : lst (xs.drop p) (ys.drop q) = (xs[p], 1) := by
  rw [List.drop_eq_getElem_cons hp, List.drop_eq_getElem_cons h]; simp [lst, show ¬ ys[q] < xs[p] by omega, show ¬ ys[q] = xs[p] by omega]
/-- A place as cells. -/
def pcell (f : Int × Nat) : List Value := [.int .i64 f.1, .int .u64 (f.2 : Int)]

theorem Rd.two {w : World} {B : Nat} {a : Option Addr} {x y : Value} (h : Rd w B a [x, y]) : ∃ b o, a = some ⟨b, o, none⟩ ∧ b < B ∧ w.cell? ⟨b, o, none⟩ = some x ∧ w.cell? ⟨b, o + 1, none⟩ = some y := by
  obtain ⟨b, o, rfl, hb, hc⟩ := h.pos (by simp)
  exact ⟨b, o, rfl, hb, by simpa using hc 0 (by simp), by simpa using hc 1 (by simp)⟩

end Go.Proofs.Ytkghkioghkapcaa
