/-
  The program's writer, by contract: its fields (add, number, whole, text, truth).
-/
import Derived.Test.YtbhpbiimfcdgaaaGreatWireW
import Derived.Test.YtbhpbiimfcdgaaaGreatCodecB
import Derived.Maps.AppendAt
namespace Go.Proofs.YtbhpbiimfcdgaaaGreat
open Go.RowKit

theorem info_byte' : (Tryz.prog.info? 5).map (fun i => (i.zero, i.size, i.bytes)) = some (some (.int .u8 0), 1, 1) := by kernel_rfl

/-- 'append(s, x...)' of bytes, x whatever reads (nil too): where the row lies is told. -/
theorem wpList_append_rd_at {P : Program} {w : World} {ops : Array Oper} {rest : List Oper} {o : Oper} {a : Act} {Q : Exit → Act → World → Prop} (hgd : o.guard = none) (s x : Operand) (t : TypeId)
    (ho : o.op = .call { callee := .builtin .append, args := #[s, x], argTypes := #[t, t] })
    (base : Nat) (e : TypeId) (i : TypeInfo) (z : Value) (bytes : Nat) (ht : P.underlying t = some (.slice e)) (hi : P.info? e = some i) (hz : i.zero = some z)
    (hsize : i.size = 1) (hby : i.bytes = bytes) (hzs : z.cells.size = 1)
    (v : Value) (n : Nat) (xs : List Value) (hs : a.eval s = v) (hown : w.ownsRow base e 1 v n xs)
    (B : Nat) (A : Option Addr) (m c : Nat) (news : List Value) (hx : a.eval x = .slice A m c) (hr : Rd w B A news) (hl : news.length = m) (h1 : ∀ u ∈ news, u.oneCell' = true)
    (h63 : n + m ≤ maxLen) (hbytes : (n + m) * bytes ≤ 140737488355328) (hbase : base ≤ w.heap.size)
    (h : ∀ v' w', w'.ownsRow base e 1 v' (n + m) (xs ++ news) → w.grownBy w' v.ownBlock → (v'.ownBlock = v.ownBlock ∨ v'.ownBlock = some w.heap.size) → wpList P ops Q rest (a.put o.dst v') w') : wpList P ops Q (o :: rest) a w := by
  have run : ∃ v' w', (Builtin.append_ #[t, t] o.type #[v, .slice A m c]).run P w = .ok v' w' ∧ w'.ownsRow base e 1 v' (n + m) (xs ++ news) ∧ w.grownBy w' v.ownBlock ∧ (v'.ownBlock = v.ownBlock ∨ v'.ownBlock = some w.heap.size) := by
    cases A with
    | none =>
      have hn : news = [] := by
        rcases hr with h | ⟨b, o, ha, _⟩
        · exact h
        · cases ha
      subst hn
      obtain rfl : m = 0 := by simpa using hl.symm
      refine ⟨v, w, ?_, by simpa using hown, World.grownBy.refl w _, .inl rfl⟩
      rcases hown.2 with ⟨rfl, rfl⟩ | ⟨g, cap, cur, rfl, _, _, hnc, _⟩
      · simp [Builtin.append_, run_underlying ht, sizeOf, typeInfo, hi, Builtin.lenOf, Builtin.firstCells]
      · simp [Builtin.append_, run_underlying ht, sizeOf, typeInfo, hi, Builtin.lenOf, Builtin.firstCells, hnc, storeCells]
    | some ad =>
      obtain ⟨v', w', hr, h2, h3, _, h5⟩ := run_append_own_at (P := P) w base t o.type e i z 1 bytes ht hi hz hsize hby hzs (by omega) v n xs hown ad m c news (by omega) (fun j u hu => by
        rcases hr with h | ⟨b, o, ha, _, hc⟩
        · rw [h] at hu; simp at hu
        · obtain ⟨hj, rfl⟩ := List.getElem?_eq_some_iff.1 hu
          simp only [Option.some.injEq] at ha
          subst ha
          have := hc j hj
          unfold Addr.add
          split
          · rename_i hz; subst hz; simpa using this
          · exact this) h1 h63 hbytes hbase
      exact ⟨v', w', hr, h2, h3, h5⟩
  obtain ⟨v', w', hr, h2, h3, h4⟩ := run
  refine wpList_plain hgd fun K hK => ?_
  unfold Oper.wp execOp
  simp only [ho, resolve, invoke, builtin, Sem.run_bind, Sem.run_pure, Result.andThen_ok, List.map_toArray, List.map_cons, List.map_nil, hs, hx, hr]
  exact hK _ _ (h v' w' h2 h3 h4)

/-- Block p is the writer: its bytes so far are 'xs', in a row of its own; S are the blocks that stay. -/
def Wr (w : World) (S : Nat → Prop) (p : Nat) (xs : List UInt8) : Prop :=
  (∀ k, S k → k < w.heap.size) ∧ ¬ S p ∧ ∃ v, w.heap[p]? = some (.cells #[v] 175 (0, 0)) ∧ w.ownsRow 0 5 1 v xs.length (cb xs) ∧ ∀ k, v.ownBlock = some k → ¬ S k ∧ k ≠ p

section
variable {w w' : World} {S S' : Nat → Prop} {p : Nat} {xs : List UInt8}
theorem Wr.less (h : Wr w S p xs) (hs : ∀ k, S' k → S k) : Wr w S' p xs := by
  obtain ⟨h1, h2, v, h3, h4, h5⟩ := h
  exact ⟨fun k hk => h1 k (hs k hk), fun hp => h2 (hs p hp), v, h3, h4, fun k hk => ⟨fun h => (h5 k hk).1 (hs k h), (h5 k hk).2⟩⟩
theorem Wr.out {b : Nat} (h : Wr w (Also S b) p xs) : Wr w S p xs := h.less fun _ => .inl
theorem Wr.lt (h : Wr w S p xs) : p < w.heap.size := by
  obtain ⟨_, _, v, h3, _⟩ := h
  exact lt_of_block h3
theorem own_keep {v : Value} {n : Nat} {cs : List Value} (h4 : w.ownsRow 0 5 1 v n cs) (hk : ∀ k, v.ownBlock = some k → w'.heap[k]? = w.heap[k]?) : w'.ownsRow 0 5 1 v n cs := by
  refine ⟨h4.1, ?_⟩
  rcases h4.2 with h | ⟨g, cap, cur, rfl, a1, a2, a3⟩
  · exact .inl h
  · exact .inr ⟨g, cap, cur, rfl, a1, (hk g rfl).trans a2, a3⟩
theorem own_form {base : Nat} {e : TypeId} {sz : Nat} {v : Value} {n : Nat} {cs : List Value} (h : w.ownsRow base e sz v n cs) : ∃ a cap, v = .slice a n cap := by
  rcases h.2 with ⟨rfl, rfl⟩ | ⟨g, cap, cur, rfl, _⟩
  · exact ⟨none, 0, rfl⟩
  · exact ⟨_, cap, rfl⟩
/-- A new block ('o'), which stays from now on. -/
theorem Wr.boxed (h : Wr w S p xs) (o : Obj) : Wr (w.alloc o) (Also S w.heap.size) p xs := by
  have hp := h.lt
  obtain ⟨h1, h2, v, h3, h4, h5⟩ := h
  have hown := fun k hk => (World.ownsRow.lt h4 k hk).2
  refine ⟨?_, ?_, v, (Below.heap_alloc _ _ _ hp).trans h3, own_keep h4 fun k hk => Below.heap_alloc _ _ _ (hown k hk), fun k hk => ⟨?_, (h5 k hk).2⟩⟩
  · rintro k (hk | rfl)
    · have := h1 k hk; simp; omega
    · simp
  · rintro (hs | e)
    · exact h2 hs
    · omega
  · rintro (hs | e)
    · exact (h5 k hk).1 hs
    · have := hown k hk; omega
theorem Wr.alloc (h : Wr w S p xs) (o : Obj) : Wr (w.alloc o) S p xs := (h.boxed o).out
theorem Wr.below (h : Wr w S p xs) (hb : Below w.heap.size w w') : Wr w' S p xs := by
  have hp := h.lt
  obtain ⟨h1, h2, v, h3, h4, h5⟩ := h
  exact ⟨fun k hk => Nat.lt_of_lt_of_le (h1 k hk) hb.size, h2, v, (hb.block p hp).trans h3, own_keep h4 fun k hk => hb.block k (World.ownsRow.lt h4 k hk).2, h5⟩
end

theorem wr_done {w : World} {S : Nat → Prop} {p n : Nat} {v v' : Value} {ys : List UInt8} (h1 : ∀ k, S k → k < w.heap.size) (h2 : ¬ S p) (hp : w.heap[p]? = some (.cells #[v] 175 (0, 0)))
    (hown : w.ownsRow 0 5 1 v' n (cb ys)) (hn : ys.length = n) (hb : ∀ k, v'.ownBlock = some k → ¬ S k ∧ k ≠ p) : Wr (w.setCell ⟨p, 0, none⟩ v') S p ys := by
  subst hn
  have hh := heap_setCell_same w p 0 _ _ v' hp
  refine ⟨fun k hk => by simpa [World.setCell] using h1 k hk, h2, v', by simpa using hh, own_keep hown fun k hk => Below.heap_setCell _ _ _ _ (fun e => (hb k hk).2 (by simpa using e)), hb⟩
/-- Where the row lies behind an append. -/
theorem wr_at {w : World} {S : Nat → Prop} {p : Nat} {v v' : Value} (h1 : ∀ k, S k → k < w.heap.size) (hp : p < w.heap.size) (h5 : ∀ k, v.ownBlock = some k → ¬ S k ∧ k ≠ p)
    (hat : v'.ownBlock = v.ownBlock ∨ v'.ownBlock = some w.heap.size) : ∀ k, v'.ownBlock = some k → ¬ S k ∧ k ≠ p := by
  intro k hk
  rcases hat with e | e
  · exact h5 k (e ▸ hk)
  · rw [hk] at e
    simp only [Option.some.injEq] at e
    subst e
    exact ⟨fun h => Nat.lt_irrefl _ (h1 _ h), by omega⟩

/-- There is room for all that is still to be laid. -/
def Room (xs : List UInt8) (ts : List Tok) : Prop := xs.length + wtL ts ≤ 70368744177664
theorem Room.left {xs : List UInt8} {a b : List Tok} (h : Room xs (a ++ b)) : Room xs a := by unfold Room at *; rw [wtL_append] at h; omega
theorem Room.right {xs : List UInt8} {a b : List Tok} (h : Room xs (a ++ b)) (h0 : firstF a = 0) : Room (xs ++ bytesL a) b := by
  unfold Room at *; rw [wtL_append] at h; have := length_bytesL h0; rw [List.length_append]; omega

theorem Rd.fresh (w : World) (cs : List Value) (t : TypeId) : Rd (w.alloc (.cells cs.toArray t)) (w.heap.size + 1) (some ⟨w.heap.size, 0, none⟩) cs := by
  have h := Rd.row (off := 0) (n := cs.length) (heap_alloc_new w (.cells cs.toArray t)) (Nat.lt_succ_self _) (by omega)
  rw [List.drop_zero, List.take_length] at h
  exact h
/-- What an error is, as the walk sees it. -/
def died (c : Int) : Ending := .panicked [{ v := .iface 35 (.int .i64 c), recovered := false }]
/-- Behind a method of the writer: its fields lie behind what was laid, or the first fault was told. -/
def WPost (w : World) (S : Nat → Prop) (p : Nat) (xs : List UInt8) (ts : List Tok) (e : Ending) (w' : World) : Prop :=
  Keeps S w w' ∧ ((firstF ts = 0 ∧ e = .returned (.tuple #[]) ∧ Wr w' S p (xs ++ bytesL ts)) ∨ (firstF ts ≠ 0 ∧ e = died (firstF ts)))

section
variable {w w1 w' : World} {S : Nat → Prop} {p : Nat} {xs : List UInt8} {a b : List Tok} {e : Ending}
theorem WPost.step (hk : Keeps S w w1) (h0 : firstF a = 0) (h : WPost w1 S p (xs ++ bytesL a) b e w') : WPost w S p xs (a ++ b) e w' := by
  obtain ⟨k, h⟩ := h
  refine ⟨hk.trans k, ?_⟩
  rcases h with ⟨h1, h2, h3⟩ | ⟨h1, h2⟩
  · exact .inl ⟨firstF_zero.2 ⟨h0, h1⟩, h2, by rw [bytesL_append, ← List.append_assoc]; exact h3⟩
  · rw [firstF_left h0.symm.symm] ; exact .inr ⟨h1, h2⟩
theorem WPost.stop (hk : Keeps S w w') (h0 : firstF a ≠ 0) (he : e = died (firstF a)) : WPost w S p xs (a ++ b) e w' := by
  refine ⟨hk, .inr ?_⟩
  rw [firstF_stop h0]; exact ⟨h0, he⟩
theorem WPost.boxed {o : Obj} (h : WPost (w.alloc o) (Also S w.heap.size) p xs a e w') : WPost w S p xs a e w' := by
  obtain ⟨k, h⟩ := h
  refine ⟨(Keeps.refl.alloc o).trans k.out, ?_⟩
  rcases h with ⟨h1, h2, h3⟩ | h
  · exact .inl ⟨h1, h2, h3.out⟩
  · exact .inr h
end

theorem add_bad (p : Nat) (v : Value) (c : Int) (w : World) (hc : ¬ c = 0) :
    Calls Tryz.prog 100 #[.pointer (some ⟨p, 0, none⟩), v, .int .i64 c] w fun e w' => e = died c ∧ w = w' := by
  go_enter Tryz.func100, Tryz.ntmps100
  go_wp2_with fail
  exact ⟨rfl, rfl, rfl⟩
set_option maxRecDepth 100000 in
theorem add_ok (p : Nat) (S : Nat → Prop) (xs bs : List UInt8) (a : Option Addr) (n cap B : Nat) (w : World) (hW : Wr w S p xs) (hl : bs.length = n) (hr : Rd w B a (cb bs)) (hroom : xs.length + n ≤ 70368744177664) :
    Calls Tryz.prog 100 #[.pointer (some ⟨p, 0, none⟩), .slice a n cap, .int .i64 0] w fun e w' => e = .returned (.tuple #[]) ∧ Wr w' S p (xs ++ bs) ∧ Keeps S w w' := by
  obtain ⟨i0, hi, hz0, hz1, hz2⟩ := info_parts info_byte'
  have hp := hW.lt
  obtain ⟨h1, h2, v, h3, h4, h5⟩ := hW
  have hcell : w.cell? ⟨p, 0, none⟩ = some v := by simpa using cell_of_row w p 0 _ _ _ h3
  have hfz : w.frozen? ⟨p, 0, none⟩ = false := frozen_of_row w p 0 _ _ h3
  have H3 := Lib.hid h3; clear h3
  have HL := Lib.hid hl; clear hl
  generalize hx : xs.length = m at *
  have HX := Lib.hid hx; clear hx
  go_enter Tryz.func100, Tryz.ntmps100
  go_wp2_with (at_builtin; refine wpList_append_rd_at rfl _ _ 22 rfl 0 5 i0 (.int .u8 0) 1 Tryz.underlying22 hi hz0 hz1 hz2 rfl _ _ _ rfl h4 B _ _ _ (cb bs) rfl hr ?c1 (cb_one _) ?c2 ?c3 (Nat.zero_le _) ?_)
  case c1 => rw [length_cb, HL.out]
  case c2 => unfold maxLen; omega
  case c3 => omega
  intro v' w' hown hg hat
  have hpo : ∀ k, v.ownBlock = some k → ¬ S k ∧ k ≠ p := h5
  have hpr : w'.heap[p]? = some (.cells #[v] 175 (0, 0)) := (hg.block p hp (fun e => (h5 p e.symm).2 rfl)).trans H3.out
  have hfz' : w'.frozen? ⟨p, 0, none⟩ = false := frozen_of_row w' p 0 _ _ hpr
  have hcell' : w'.cell? ⟨p, 0, none⟩ = some v := by simpa using cell_of_row w' p 0 _ _ _ hpr
  have hk : Keeps S w w' := Keeps.of_grown hg fun k hk => (h5 k hk).1
  have HPR := Lib.hid hpr; clear hpr
  obtain ⟨a', c', rfl⟩ := own_form hown
  go_wp2
  go_end0
  refine ⟨rfl, ?_, hk.setCell (p := ⟨p, 0, none⟩) h2 _⟩
  rw [← cb_append] at hown
  exact wr_done (fun k hk' => Nat.lt_of_lt_of_le (h1 k hk') hg.size) h2 HPR.out hown (by rw [List.length_append, HX.out, HL.out]) (wr_at h1 hp h5 hat)

theorem fault_int {c : Int} (h : c = 1 ∨ c = 2) : ¬ c = 0 := by omega
/-- A method of the writer's that lays one field. -/
theorem w_number (p : Nat) (S : Nat → Prop) (xs : List UInt8) (n : Int) (w : World) (hW : Wr w S p xs) (hroom : Room xs [.num n]) :
    Calls Tryz.prog 84 #[.pointer (some ⟨p, 0, none⟩), .int .i64 n] w (WPost w S p xs [.num n]) := by
  by_cases hn : n < 0 ∨ 1000000000 < n
  · go_enter Tryz.func84, Tryz.ntmps84
    go_wp2_with fail
    refine (put_number_no none 0 0 n w hn).mono ?_
    rintro e w' ⟨rfl, rfl⟩
    go_wp2_with fail
    refine (add_bad p _ 1 w (by decide)).mono ?_
    rintro e w' ⟨rfl, rfl⟩
    have hf : firstF [.num n] = 1 := by simp [firstF, Tok.fault, hn]
    exact ⟨rfl, Keeps.refl, .inr ⟨by rw [hf]; decide, by rw [hf]; rfl⟩⟩
  · have hf : firstF [.num n] = 0 := by simp [firstF, Tok.fault, hn]
    have hb : bytesL [.num n] = lowB n 4 := by simp [bytesL, Tok.bytes]
    have HF := Lib.hid hf; clear hf
    have HB := Lib.hid hb; clear hb
    have hr4 : xs.length + 4 ≤ 70368744177664 := by simpa [Room, wtL, Tok.wt] using hroom
    go_enter Tryz.func84, Tryz.ntmps84
    go_wp2_with fail
    refine (put_number_ok none 0 0 n [] 0 w rfl Rd.nil (Nat.zero_le _) (by simp) (by omega) (by omega) (by omega)).mono ?_
    rintro e w' ⟨rfl, rfl⟩
    go_wp2_with fail
    refine (add_ok p S xs (lowB n 4) _ _ _ _ _ (hW.alloc _) (by simp) (by rw [← low_lowB]; exact Rd.fresh w _ _) (by simpa using hr4)).mono ?_
    rintro e w' ⟨rfl, hW', hk⟩
    go_wp2
    go_end0
    exact ⟨(Keeps.refl.alloc _).trans hk, .inl ⟨HF.out, rfl, by rw [HB.out]; exact hW'⟩⟩

theorem w_whole (p : Nat) (S : Nat → Prop) (xs : List UInt8) (n : Int) (w : World) (hW : Wr w S p xs) (hroom : Room xs [.whole n]) :
    Calls Tryz.prog 116 #[.pointer (some ⟨p, 0, none⟩), .int .i64 n] w (WPost w S p xs [.whole n]) := by
  have hb : bytesL [.whole n] = wb n := by simp [bytesL, Tok.bytes]
  have HB := Lib.hid hb; clear hb
  have hr4 : xs.length + 8 ≤ 70368744177664 := by simpa [Room, wtL, Tok.wt] using hroom
  go_enter Tryz.func116, Tryz.ntmps116
  go_wp2_with fail
  refine (put_int_any none 0 0 n [] 0 w rfl Rd.nil (Nat.zero_le _) (by simp) (by omega)).mono ?_
  rintro e w' ⟨rfl, rfl⟩
  go_wp2_with fail
  refine (add_ok p S xs (wb n) _ _ _ _ _ (hW.alloc _) (by simp [wb]) (by rw [wb, ← low_lowB]; exact Rd.fresh w _ _) (by simpa using hr4)).mono ?_
  rintro e w' ⟨rfl, hW', hk⟩
  go_wp2
  go_end0
  exact ⟨(Keeps.refl.alloc _).trans hk, .inl ⟨rfl, rfl, by rw [HB.out]; exact hW'⟩⟩

theorem w_text (p : Nat) (S : Nat → Prop) (xs : List UInt8) (s : ByteArray) (w : World) (hs : s.size ≤ maxLen) (hW : Wr w S p xs) (hroom : Room xs [.text s.data.toList]) :
    Calls Tryz.prog 102 #[.pointer (some ⟨p, 0, none⟩), .string s] w (WPost w S p xs [.text s.data.toList]) := by
  have hsz : s.data.toList.length = s.size := by rw [Array.length_toList]; rfl
  by_cases hn : 65536 < s.size
  · have hf : firstF [.text s.data.toList] = 2 := by simp only [firstF, Tok.fault, hsz]; rw [if_pos hn]; rfl
    have HF := Lib.hid hf; clear hf hsz
    go_enter Tryz.func102, Tryz.ntmps102
    go_wp2_with fail
    refine (put_text_no none 0 0 s w hs hn).mono ?_
    rintro e w' ⟨rfl, rfl⟩
    go_wp2_with fail
    refine (add_bad p _ 2 w (by decide)).mono ?_
    rintro e w' ⟨rfl, rfl⟩
    exact ⟨rfl, Keeps.refl, .inr ⟨by rw [HF.out]; decide, by rw [HF.out]; rfl⟩⟩
  · have hf : firstF [.text s.data.toList] = 0 := firstF_cons (fault_text (by omega))
    have hb : bytesL [.text s.data.toList] = lowB (s.size : Int) 4 ++ s.data.toList := by simp only [bytesL, Tok.bytes, hsz, List.append_nil]
    have HF := Lib.hid hf; clear hf
    have HB := Lib.hid hb; clear hb
    have hr4 : xs.length + (4 + s.size) ≤ 70368744177664 := by
      have h := hroom
      simp only [Room, wtL, Tok.wt, hsz] at h
      rw [if_pos (by omega)] at h
      omega
    have hl : (lowB (s.size : Int) 4 ++ s.data.toList).length = 0 + 4 + s.size := by rw [List.length_append, length_lowB, hsz]
    have HL := Lib.hid hl; clear hl hsz
    go_enter Tryz.func102, Tryz.ntmps102
    go_wp2_with fail
    refine (put_text_ok none 0 0 s [] 0 w rfl Rd.nil (Nat.zero_le _) (by simp) (Nat.zero_le _) (by omega)).mono ?_
    rintro e w' ⟨rfl, rfl⟩
    go_wp2_with fail
    refine (add_ok p S xs (lowB (s.size : Int) 4 ++ s.data.toList) _ _ _ _ _ (hW.alloc _) (by rw [HL.out]) (by rw [cb_append, ← low_lowB]; exact Rd.fresh w _ _) (by omega)).mono ?_
    rintro e w' ⟨rfl, hW', hk⟩
    go_wp2
    go_end0
    exact ⟨(Keeps.refl.alloc _).trans hk, .inl ⟨HF.out, rfl, by rw [HB.out]; exact hW'⟩⟩

set_option maxRecDepth 100000 in
theorem w_truth (p : Nat) (S : Nat → Prop) (xs : List UInt8) (b : Bool) (w : World) (hW : Wr w S p xs) (hroom : Room xs [.flag b]) :
    Calls Tryz.prog 106 #[.pointer (some ⟨p, 0, none⟩), .bool b] w (WPost w S p xs [.flag b]) := by
  have hr4 : xs.length + 4 ≤ 70368744177664 := by simpa [Room, wtL, Tok.wt] using hroom
  obtain ⟨i0, hi, hz0, hz1, hz2⟩ := info_parts info_byte'
  have hp := hW.lt
  obtain ⟨h1, h2, v, h3, h4, h5⟩ := hW
  have hcell : w.cell? ⟨p, 0, none⟩ = some v := by simpa using cell_of_row w p 0 _ _ _ h3
  have H3 := Lib.hid h3; clear h3
  generalize hx : xs.length = m at *
  have HX := Lib.hid hx; clear hx
  have hown1 := fun o => own_keep (w' := w.alloc o) h4 (fun k hk => Below.heap_alloc _ _ _ (World.ownsRow.lt h4 k hk).2)
  have hpr1 := fun o => (Below.heap_alloc w o _ hp).trans H3.out
  have HO := Lib.hid hown1; clear hown1
  have HP := Lib.hid hpr1; clear hpr1
  cases b
  all_goals
    have hc1 : ∀ x : Value, x.oneCell' = true → True := fun _ _ => trivial
    clear hc1
    go_enter Tryz.func106, Tryz.ntmps106
    go_wp2_with (at_builtin; first
      | refine wpList_append_rd_at rfl _ _ 22 rfl 0 5 i0 (.int .u8 0) 1 Tryz.underlying22 hi hz0 hz1 hz2 rfl _ _ _ rfl (HO.out _) (w.heap.size + 1) _ _ _ (cb (fb false)) rfl (Rd.fresh w (cb (fb false)) _) rfl (cb_one _) ?c2 ?c3 (Nat.zero_le _) ?_
      | refine wpList_append_rd_at rfl _ _ 22 rfl 0 5 i0 (.int .u8 0) 1 Tryz.underlying22 hi hz0 hz1 hz2 rfl _ _ _ rfl (HO.out _) (w.heap.size + 1) _ _ _ (cb (fb true)) rfl (Rd.fresh w (cb (fb true)) _) rfl (cb_one _) ?c2 ?c3 (Nat.zero_le _) ?_)
    case c2 => unfold maxLen; omega
    case c3 => omega
    intro v' w' hown hg hat
    have hpr : w'.heap[p]? = some (.cells #[v] 175 (0, 0)) := (hg.block p (by simp; omega) (fun e => (h5 p e.symm).2 rfl)).trans (HP.out _)
    have hfz' : w'.frozen? ⟨p, 0, none⟩ = false := frozen_of_row w' p 0 _ _ hpr
    have hcell' : w'.cell? ⟨p, 0, none⟩ = some v := by simpa using cell_of_row w' p 0 _ _ _ hpr
    have hk : Keeps S w w' := (Keeps.refl.alloc _).trans (Keeps.of_grown hg fun k hk => (h5 k hk).1)
    have hsz := hg.size
    have hsz : w.heap.size + 1 ≤ w'.heap.size := by simpa using hsz
    have HPR := Lib.hid hpr; clear hpr
    have HAT := Lib.hid hat; clear hat
    obtain ⟨a', c', rfl⟩ := own_form hown
    go_wp2
    go_end0
    refine ⟨hk.setCell (p := ⟨p, 0, none⟩) h2 _, .inl ⟨rfl, rfl, ?_⟩⟩
    rw [← cb_append] at hown
    have hat := HAT.out
    simp only [bytesL, Tok.bytes, List.append_nil]
    refine wr_done (fun k hk' => by have := h1 k hk'; omega) h2 HPR.out hown (by rw [List.length_append, HX.out]; rfl) (fun k hk => ?_)
    rcases hat with e | e
    · exact h5 k (e ▸ hk)
    · rw [hk] at e
      have e : k = w.heap.size + 1 := by simpa using e
      subst e
      exact ⟨fun h => by have := h1 _ h; omega, by omega⟩
end Go.Proofs.YtbhpbiimfcdgaaaGreat
