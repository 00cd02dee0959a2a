/-
  The program's writer, by contract: its fields (add, number, whole, text, truth).
-/
import Derived.Test.YtpepmjkkckgkkaaWireW
import Derived.Test.YtpepmjkkckgkkaaCodecB
import Derived.Maps.AppendAt
namespace Go.Proofs.Ytpepmjkkckgkkaa
open Go.RowKit

theorem info_byte' : (Try.prog.info? 5).map (fun i => (i.zero, i.size, i.bytes)) = some (some (.int .u8 0), 1, 1) := by kernel_rfl

/-- 'append(s, x...)' of bytes, x whatever reads (nil too): where the row lies is told. -/
theorem wpList_append_rd_at {P : Program} {w : World} {ops : Array Oper} {rest : List Oper} {o : Oper} {a : Act} {Q : Exit → Act → World → Prop} (hgd : o.guard = none) (s x : Operand) (t : TypeId)
    (ho : o.op = .call { callee := .builtin .append, args := #[s, x], argTypes := #[t, t] })
    (base : Nat) (e : TypeId) (i : TypeInfo) (z : Value) (bytes : Nat) (ht : P.underlying t = some (.slice e)) (hi : P.info? e = some i) (hz : i.zero = some z)
    (hsize : i.size = 1) (hby : i.bytes = bytes) (hzs : z.cells.size = 1)
    (v : Value) (n : Nat) (xs : List Value) (hs : a.eval s = v) (hown : w.ownsRow base e 1 v n xs)
    (B : Nat) (A : Option Addr) (m c : Nat) (news : List Value) (hx : a.eval x = .slice A m c) (hr : Rd w B A news) (hl : news.length = m) (h1 : ∀ u ∈ news, u.oneCell' = true)
    (h63 : n + m ≤ maxLen) (hbytes : (n + m) * bytes ≤ 140737488355328) (hbase : base ≤ w.heap.size)
    (h : ∀ v' w', w'.ownsRow base e 1 v' (n + m) (xs ++ news) → w.grownBy w' v.ownBlock → (v'.ownBlock = v.ownBlock ∨ v'.ownBlock = some w.heap.size) → wpList P ops Q rest (a.put o.dst v') w') : wpList P ops Q (o :: rest) a w := by
  have run : ∃ v' w', (Builtin.append_ #[t, t] o.type #[v, .slice A m c]).run P w = .ok v' w' ∧ w'.ownsRow base e 1 v' (n + m) (xs ++ news) ∧ w.grownBy w' v.ownBlock ∧ (v'.ownBlock = v.ownBlock ∨ v'.ownBlock = some w.heap.size) := by
    cases A with
    | none =>
      have hn : news = [] := by
        rcases hr with h | ⟨b, o, ha, _⟩
        · exact h
        · cases ha
      subst hn
      obtain rfl : m = 0 := by simpa using hl.symm
      refine ⟨v, w, ?_, by simpa using hown, World.grownBy.refl w _, .inl rfl⟩
      rcases hown.2 with ⟨rfl, rfl⟩ | ⟨g, cap, cur, rfl, _, _, hnc, _⟩
      · simp [Builtin.append_, run_underlying ht, sizeOf, typeInfo, hi, Builtin.lenOf, Builtin.firstCells]
      · simp [Builtin.append_, run_underlying ht, sizeOf, typeInfo, hi, Builtin.lenOf, Builtin.firstCells, hnc, storeCells]
    | some ad =>
      obtain ⟨v', w', hr, h2, h3, _, h5⟩ := run_append_own_at (P := P) w base t o.type e i z 1 bytes ht hi hz hsize hby hzs (by omega) v n xs hown ad m c news (by omega) (fun j u hu => by
        rcases hr with h | ⟨b, o, ha, _, hc⟩
        · rw [h] at hu; simp at hu
        · obtain ⟨hj, rfl⟩ := List.getElem?_eq_some_iff.1 hu
          simp only [Option.some.injEq] at ha
          subst ha
          have := hc j hj
          unfold Addr.add
          split
          · rename_i hz; subst hz; simpa using this
          · exact this) h1 h63 hbytes hbase
      exact ⟨v', w', hr, h2, h3, h5⟩
  obtain ⟨v', w', hr, h2, h3, h4⟩ := run
  refine wpList_plain hgd fun K hK => ?_
  unfold Oper.wp execOp
  simp only [ho, resolve, invoke, builtin, Sem.run_bind, Sem.run_pure, Result.andThen_ok, List.map_toArray, List.map_cons, List.map_nil, hs, hx, hr]
  exact hK _ _ (h v' w' h2 h3 h4)

section
variable {w w' : World} {S S' : Nat → Prop} {p : Nat} {xs : List UInt8}
theorem own_keep {v : Value} {n : Nat} {cs : List Value} (h4 : w.ownsRow 0 5 1 v n cs) (hk : ∀ k, v.ownBlock = some k → w'.heap[k]? = w.heap[k]?) : w'.ownsRow 0 5 1 v n cs := by
  refine ⟨h4.1, ?_⟩
  rcases h4.2 with h | ⟨g, cap, cur, rfl, a1, a2, a3⟩
  · exact .inl h
  · exact .inr ⟨g, cap, cur, rfl, a1, (hk g rfl).trans a2, a3⟩
theorem own_form {base : Nat} {e : TypeId} {sz : Nat} {v : Value} {n : Nat} {cs : List Value} (h : w.ownsRow base e sz v n cs) : ∃ a cap, v = .slice a n cap := by
  rcases h.2 with ⟨rfl, rfl⟩ | ⟨g, cap, cur, rfl, _⟩
  · exact ⟨none, 0, rfl⟩
  · exact ⟨_, cap, rfl⟩
end

/-- Where the row lies behind an append. -/
theorem wr_at {w : World} {S : Nat → Prop} {p : Nat} {v v' : Value} (h1 : ∀ k, S k → k < w.heap.size) (hp : p < w.heap.size) (h5 : ∀ k, v.ownBlock = some k → ¬ S k ∧ k ≠ p)
    (hat : v'.ownBlock = v.ownBlock ∨ v'.ownBlock = some w.heap.size) : ∀ k, v'.ownBlock = some k → ¬ S k ∧ k ≠ p := by
  intro k hk
  rcases hat with e | e
  · exact h5 k (e ▸ hk)
  · rw [hk] at e
    simp only [Option.some.injEq] at e
    subst e
    exact ⟨fun h => Nat.lt_irrefl _ (h1 _ h), by omega⟩

/-- There is room for all that is still to be laid. -/
def Room (xs : List UInt8) (ts : List Tok) : Prop := xs.length + wtL ts ≤ 70368744177664
theorem Room.left {xs : List UInt8} {a b : List Tok} (h : Room xs (a ++ b)) : Room xs a := by unfold Room at *; rw [wtL_append] at h; omega
theorem Room.right {xs : List UInt8} {a b : List Tok} (h : Room xs (a ++ b)) (h0 : firstF a = 0) : Room (xs ++ bytesL a) b := by
  unfold Room at *; rw [wtL_append] at h; have := length_bytesL h0; rw [List.length_append]; omega

theorem Rd.fresh (w : World) (cs : List Value) (t : TypeId) : Rd (w.alloc (.cells cs.toArray t)) (w.heap.size + 1) (some ⟨w.heap.size, 0, none⟩) cs := by
  have h := Rd.row (off := 0) (n := cs.length) (heap_alloc_new w (.cells cs.toArray t)) (Nat.lt_succ_self _) (by omega)
  rw [List.drop_zero, List.take_length] at h
  exact h
/-- What an error is, as the walk sees it. -/
def died (c : Int) : Ending := .panicked [{ v := .iface 31 (.int .i64 c), recovered := false }]
section
variable {w w1 w' : World} {S : Nat → Prop} {p : Nat} {xs : List UInt8} {a b : List Tok} {e : Ending}
end

theorem fault_int {c : Int} (h : c = 1 ∨ c = 2) : ¬ c = 0 := by omega
end Go.Proofs.Ytpepmjkkckgkkaa
