/-
  The document's writer, by contract: its fields (number, whole, text, flag, many).
-/
import Derived.Test.YtbhpbiimfcdgaaaGreatWireD
import Derived.Test.YtbhpbiimfcdgaaaGreatRef01
import Derived.Deep.AppendLies
import Derived.Deep.RegionLaw
namespace Go.Proofs.YtbhpbiimfcdgaaaGreat
open Go.RowKit
set_option linter.unusedVariables false

/-- Block p is the document's writer: 'xs' are laid, E is the first fault; S are the blocks that stay. -/
def La (w : World) (S : Nat → Prop) (p : Nat) (xs : List UInt8) (E : Int) : Prop :=
  (∀ k, S k → k < w.heap.size) ∧ ¬ S p ∧ ∃ v, w.heap[p]? = some (.cells #[v, .int .i64 E] 58 (0, 0)) ∧ w.ownsRow 0 5 1 v xs.length (cb xs) ∧ ∀ k, v.ownBlock = some k → ¬ S k ∧ k ≠ p

section
variable {w w' : World} {S S' : Nat → Prop} {p : Nat} {xs : List UInt8} {E : Int}
theorem La.less (h : La w S p xs E) (hs : ∀ k, S' k → S k) : La w S' p xs E := by
  obtain ⟨h1, h2, v, h3, h4, h5⟩ := h
  exact ⟨fun k hk => h1 k (hs k hk), fun hp => h2 (hs p hp), v, h3, h4, fun k hk => ⟨fun h => (h5 k hk).1 (hs k h), (h5 k hk).2⟩⟩
theorem La.out {b : Nat} (h : La w (Also S b) p xs E) : La w S p xs E := h.less fun _ => .inl
theorem La.lt (h : La w S p xs E) : p < w.heap.size := by
  obtain ⟨_, _, v, h3, _⟩ := h
  exact lt_of_block h3
theorem La.boxed (h : La w S p xs E) (o : Obj) : La (w.alloc o) (Also S w.heap.size) p xs E := by
  have hp := h.lt
  obtain ⟨h1, h2, v, h3, h4, h5⟩ := h
  have hown := fun k hk => (World.ownsRow.lt h4 k hk).2
  refine ⟨?_, ?_, v, (Below.heap_alloc _ _ _ hp).trans h3, own_keep h4 fun k hk => Below.heap_alloc _ _ _ (hown k hk), fun k hk => ⟨?_, (h5 k hk).2⟩⟩
  · rintro k (hk | rfl)
    · have := h1 k hk; simp; omega
    · simp
  · rintro (hs | e)
    · exact h2 hs
    · omega
  · rintro (hs | e)
    · exact (h5 k hk).1 hs
    · have := hown k hk; omega
theorem La.alloc (h : La w S p xs E) (o : Obj) : La (w.alloc o) S p xs E := (h.boxed o).out
theorem La.below (h : La w S p xs E) (hb : Below w.heap.size w w') : La w' S p xs E := by
  have hp := h.lt
  obtain ⟨h1, h2, v, h3, h4, h5⟩ := h
  exact ⟨fun k hk => Nat.lt_of_lt_of_le (h1 k hk) hb.size, h2, v, (hb.block p hp).trans h3, own_keep h4 fun k hk => hb.block k (World.ownsRow.lt h4 k hk).2, h5⟩
/-- The fault is laid down. -/
theorem La.fault (h : La w S p xs E) (E' : Int) : La (w.setCell ⟨p, 1, none⟩ (.int .i64 E')) S p xs E' ∧ Keeps S w (w.setCell ⟨p, 1, none⟩ (.int .i64 E')) := by
  obtain ⟨h1, h2, v, h3, h4, h5⟩ := h
  refine ⟨⟨fun k hk => by simpa [World.setCell] using h1 k hk, h2, v, ?_, own_keep h4 fun k hk => Below.heap_setCell _ _ _ _ (fun e => (h5 k hk).2 (by simpa using e)), h5⟩, Keeps.refl.setCell (p := ⟨p, 1, none⟩) h2 _⟩
  have := heap_setCell_same w p 1 _ _ (.int .i64 E') h3
  simpa using this
/-- What the walk needs of it. -/
theorem La.open_ (h : La w S p xs E) : ∃ v, w.cell? ⟨p, 0, none⟩ = some v ∧ w.cell? ⟨p, 1, none⟩ = some (.int .i64 E) ∧ w.frozen? ⟨p, 0, none⟩ = false ∧ w.frozen? ⟨p, 1, none⟩ = false ∧ w.ownsRow 0 5 1 v xs.length (cb xs) := by
  obtain ⟨h1, h2, v, h3, h4, h5⟩ := h
  exact ⟨v, by simpa using cell_of_row w p 0 _ _ _ h3, by simpa using cell_of_row w p 1 _ _ _ h3, frozen_of_row w p 0 _ _ h3, frozen_of_row w p 1 _ _ h3, h4⟩
/-- Behind an append to its bytes, and the store of the new row. -/
theorem La.laid {v v' : Value} {n : Nat} {ys : List UInt8} (h : La w S p xs E) (hc : w.cell? ⟨p, 0, none⟩ = some v) (hg : w.grownBy w' v.ownBlock) (hat : v'.ownBlock = v.ownBlock ∨ v'.ownBlock = some w.heap.size)
    (hown : w'.ownsRow 0 5 1 v' n (cb ys)) (hn : ys.length = n) : La (w'.setCell ⟨p, 0, none⟩ v') S p ys E ∧ Keeps S w (w'.setCell ⟨p, 0, none⟩ v') ∧ w'.cell? ⟨p, 0, none⟩ = some v ∧ w'.frozen? ⟨p, 0, none⟩ = false := by
  have hp := h.lt
  obtain ⟨h1, h2, v0, h3, h4, h5⟩ := h
  obtain rfl : v0 = v := by have := cell_of_row w p 0 _ _ _ h3; rw [hc] at this; simpa using this.symm
  subst hn
  have hk : Keeps S w w' := Keeps.of_grown hg fun k hk => (h5 k hk).1
  have hpr : w'.heap[p]? = some (.cells #[v0, .int .i64 E] 58 (0, 0)) := (hg.block p hp (fun e => (h5 p e.symm).2 rfl)).trans h3
  have hb := wr_at h1 hp h5 hat
  have hh := heap_setCell_same w' p 0 _ _ v' hpr
  refine ⟨⟨fun k hk' => by have := h1 k hk'; have := hg.size; simp [World.setCell]; omega, h2, v', by simpa using hh, own_keep hown fun k hk => Below.heap_setCell _ _ _ _ (fun e => (hb k hk).2 (by simpa using e)), hb⟩, hk.setCell (p := ⟨p, 0, none⟩) h2 _, ?_, frozen_of_row w' p 0 _ _ hpr⟩
  simpa using cell_of_row w' p 0 _ _ _ hpr
end

theorem Keeps.of_new' {S : Nat → Prop} {w w' : World} (h : Below w.heap.size w w') : Keeps S w w' := ⟨h.os, h.tape, h.output, h.size, fun k hk _ => h.block k hk⟩

/-- What the fields 'ts' make of bytes and fault. -/
def LStep (xs : List UInt8) (E : Int) (ts : List Tok) (xs' : List UInt8) (E' : Int) : Prop :=
  E' = (if E = 0 then firstF ts else E) ∧ (E' = 0 → xs' = xs ++ bytesL ts) ∧ xs'.length ≤ xs.length + wtL ts
theorem LStep.trans {xs x1 x2 : List UInt8} {E E1 E2 : Int} {a b : List Tok} (h : LStep xs E a x1 E1) (k : LStep x1 E1 b x2 E2) : LStep xs E (a ++ b) x2 E2 := by
  obtain ⟨h1, h2, h3⟩ := h
  obtain ⟨k1, k2, k3⟩ := k
  refine ⟨?_, ?_, by rw [wtL_append]; omega⟩
  · rw [k1, h1, firstF_append]
    by_cases e : E = 0 <;> simp [e]
  · intro h0
    by_cases e1 : E1 = 0
    · rw [k2 h0, h2 e1, bytesL_append, List.append_assoc]
    · rw [k1, if_neg e1] at h0; exact absurd h0 e1
theorem LStep.done {xs : List UInt8} {E : Int} : LStep xs E [] xs E := ⟨by simp [firstF], fun _ => by simp [bytesL], by simp⟩
def LPost (w : World) (S : Nat → Prop) (p : Nat) (xs : List UInt8) (E : Int) (ts : List Tok) (e : Ending) (w' : World) : Prop :=
  e = .returned (.tuple #[]) ∧ Keeps S w w' ∧ ∃ xs' E', La w' S p xs' E' ∧ LStep xs E ts xs' E'
theorem Room.on {xs x1 : List UInt8} {E E1 : Int} {a b : List Tok} (h : Room xs (a ++ b)) (k : LStep xs E a x1 E1) : Room x1 b := by
  have := k.2.2; unfold Room at *; rw [wtL_append] at h; omega

set_option maxRecDepth 100000 in
set_option maxHeartbeats 2000000 in
theorem l_number (p : Nat) (S : Nat → Prop) (xs : List UInt8) (E : Int) (n : Int) (w : World) (hL : La w S p xs E) (hroom : Room xs [.num n]) :
    Calls Tryz.prog 49 #[.pointer (some ⟨p, 0, none⟩), .int .i64 n] w (LPost w S p xs E [.num n]) := by
  obtain ⟨i0, hi, hz0, hz1, hz2⟩ := info_parts info_byte'
  have hwt : wtL [.num n] = 4 := rfl
  have hr4 : xs.length + 4 ≤ 70368744177664 := by simpa [Room, hwt] using hroom
  by_cases hn : n < 0 ∨ 1000000000 < n
  · have hf : firstF [.num n] = 1 := by simp [firstF, Tok.fault, hn]
    have HF := Lib.hid hf; clear hf
    by_cases hE : E = 0
    · subst hE
      obtain ⟨h1, h2⟩ := hL.fault 1
      obtain ⟨_, _, c1, _, f1, _⟩ := hL.open_
      obtain ⟨v, c0, _, f0, _, hown⟩ := h1.open_
      generalize hx : xs.length = m at *
      have HX := Lib.hid hx; clear hx
      go_enter Tryz.func49, Tryz.ntmps49
      go_wp2_with fail
      refine (ref_number_no n w hn).mono ?_
      rintro e w' ⟨rfl, rfl⟩
      go_wp2_with (at_builtin; refine wpList_append_rd_at rfl _ _ 22 rfl 0 5 i0 (.int .u8 0) 1 Tryz.underlying22 hi hz0 hz1 hz2 rfl _ _ _ rfl hown 0 _ _ _ [] rfl Rd.nil rfl (by simp) ?c2 ?c3 (Nat.zero_le _) ?_)
      case c2 => unfold maxLen; omega
      case c3 => omega
      intro v' w' hown' hg hat
      have hown' : w'.ownsRow 0 5 1 v' m (cb xs) := by simpa using hown'
      obtain ⟨hL', hK, hc', hz'⟩ := h1.laid c0 hg (by simpa [World.setCell] using hat) hown' (by rw [HX.out])
      obtain ⟨a', c', rfl⟩ := own_form hown'
      have HL := Lib.hid hL'; clear hL' hown' hat
      go_wp2_with fail
      go_end0
      exact ⟨rfl, h2.trans hK, _, _, HL.out, by rw [HF.out]; rfl, fun h => (by cases h), by omega⟩
    · obtain ⟨v, c0, c1, f0, f1, hown⟩ := hL.open_
      generalize hx : xs.length = m at *
      have HX := Lib.hid hx; clear hx
      go_enter Tryz.func49, Tryz.ntmps49
      go_wp2_with fail
      refine (ref_number_no n w hn).mono ?_
      rintro e w' ⟨rfl, rfl⟩
      go_wp2_with (at_builtin; refine wpList_append_rd_at rfl _ _ 22 rfl 0 5 i0 (.int .u8 0) 1 Tryz.underlying22 hi hz0 hz1 hz2 rfl _ _ _ rfl hown 0 _ _ _ [] rfl Rd.nil rfl (by simp) ?c2 ?c3 (Nat.zero_le _) ?_)
      case c2 => unfold maxLen; omega
      case c3 => omega
      intro v' w' hown' hg hat
      have hown' : w'.ownsRow 0 5 1 v' m (cb xs) := by simpa using hown'
      obtain ⟨hL', hK, hc', hz'⟩ := hL.laid c0 hg (by simpa [World.setCell] using hat) hown' (by rw [HX.out])
      obtain ⟨a', c', rfl⟩ := own_form hown'
      have HL := Lib.hid hL'; clear hL' hown' hat
      go_wp2_with fail
      go_end0
      exact ⟨rfl, hK, _, _, HL.out, by rw [if_neg hE], fun h => absurd h hE, by omega⟩
  · have hf : firstF [.num n] = 0 := by simp [firstF, Tok.fault, hn]
    have HF := Lib.hid hf; clear hf
    have hb : bytesL [.num n] = lowB n 4 := by simp [bytesL, Tok.bytes]
    have HB := Lib.hid hb; clear hb
    generalize hx : xs.length = m at *
    have HX := Lib.hid hx; clear hx
    go_enter Tryz.func49, Tryz.ntmps49
    go_wp2_with fail
    refine (ref_number_ok n w (by omega) (by omega)).mono ?_
    rintro e w1 ⟨o, rfl, howno, hb1⟩
    have hL1 := hL.below hb1
    obtain ⟨v, c0, c1, f0, f1, hown⟩ := hL1.open_
    rw [HX.out] at hown
    obtain ⟨ao, co, rfl, hrd, hlen⟩ := Rd.own howno
    rw [low_lowB] at hrd hlen
    have HLEN := Lib.hid hlen; clear hlen
    go_wp2_with (at_builtin; refine wpList_append_rd_at rfl _ _ 22 rfl 0 5 i0 (.int .u8 0) 1 Tryz.underlying22 hi hz0 hz1 hz2 rfl _ _ _ rfl hown _ _ _ _ (cb (lowB n 4)) rfl hrd HLEN.out (cb_one _) ?c2 ?c3 (Nat.zero_le _) ?_)
    case c2 => unfold maxLen; omega
    case c3 => omega
    intro v' w' hown' hg hat
    rw [← cb_append] at hown'
    obtain ⟨hL', hK, hc', hz'⟩ := hL1.laid c0 hg (by simpa [World.setCell] using hat) hown' (by have h := HLEN.out; rw [length_cb] at h; rw [List.length_append, HX.out, h])
    obtain ⟨a', c', rfl⟩ := own_form hown'
    have HL := Lib.hid hL'; clear hL' hown' hat
    go_wp2_with fail
    go_end0
    exact ⟨rfl, (Keeps.of_new' hb1).trans hK, _, _, HL.out, by rw [HF.out]; split <;> omega, fun _ => by rw [HB.out], by (have h := HLEN.out; rw [length_cb] at h; rw [List.length_append, HX.out, h]; omega)⟩

set_option maxRecDepth 100000 in
set_option maxHeartbeats 2000000 in
theorem l_text (p : Nat) (S : Nat → Prop) (xs : List UInt8) (E : Int) (s : ByteArray) (w : World) (hs : s.size ≤ maxLen) (hL : La w S p xs E) (hroom : Room xs [.text s.data.toList]) :
    Calls Tryz.prog 53 #[.pointer (some ⟨p, 0, none⟩), .string s] w (LPost w S p xs E [.text s.data.toList]) := by
  obtain ⟨i0, hi, hz0, hz1, hz2⟩ := info_parts info_byte'
  have hsz : s.data.toList.length = s.size := by rw [Array.length_toList]; rfl
  have hwt : wtL [.text s.data.toList] = if s.size ≤ 65536 then 4 + s.size else 0 := by simp only [wtL, Tok.wt, hsz, Nat.add_zero]
  have hr4 : xs.length + (if s.size ≤ 65536 then 4 + s.size else 0) ≤ 70368744177664 := by simpa [Room, hwt] using hroom
  have HWT := Lib.hid hwt; clear hwt
  have hr5 : xs.length + 0 ≤ 70368744177664 := by omega
  have HSZ := Lib.hid hsz; clear hsz
  by_cases hn : 65536 < s.size
  · have hf : firstF [.text s.data.toList] = 2 := by (simp only [firstF, Tok.fault, HSZ.out]; rw [if_pos hn]; rfl)
    have HF := Lib.hid hf; clear hf
    by_cases hE : E = 0
    · subst hE
      obtain ⟨h1, h2⟩ := hL.fault 2
      obtain ⟨_, _, c1, _, f1, _⟩ := hL.open_
      obtain ⟨v, c0, _, f0, _, hown⟩ := h1.open_
      generalize hx : xs.length = m at *
      have HX := Lib.hid hx; clear hx
      go_enter Tryz.func53, Tryz.ntmps53
      go_wp2_with fail
      refine (ref_text_no s w hs hn).mono ?_
      rintro e w' ⟨rfl, rfl⟩
      go_wp2_with (at_builtin; refine wpList_append_rd_at rfl _ _ 22 rfl 0 5 i0 (.int .u8 0) 1 Tryz.underlying22 hi hz0 hz1 hz2 rfl _ _ _ rfl hown 0 _ _ _ [] rfl Rd.nil rfl (by simp) ?c2 ?c3 (Nat.zero_le _) ?_)
      case c2 => unfold maxLen; omega
      case c3 => omega
      intro v' w' hown' hg hat
      have hown' : w'.ownsRow 0 5 1 v' m (cb xs) := by simpa using hown'
      obtain ⟨hL', hK, hc', hz'⟩ := h1.laid c0 hg (by simpa [World.setCell] using hat) hown' (by rw [HX.out])
      obtain ⟨a', c', rfl⟩ := own_form hown'
      have HL := Lib.hid hL'; clear hL' hown' hat
      go_wp2_with fail
      go_end0
      exact ⟨rfl, h2.trans hK, _, _, HL.out, by rw [HF.out]; rfl, fun h => (by cases h), by omega⟩
    · obtain ⟨v, c0, c1, f0, f1, hown⟩ := hL.open_
      generalize hx : xs.length = m at *
      have HX := Lib.hid hx; clear hx
      go_enter Tryz.func53, Tryz.ntmps53
      go_wp2_with fail
      refine (ref_text_no s w hs hn).mono ?_
      rintro e w' ⟨rfl, rfl⟩
      go_wp2_with (at_builtin; refine wpList_append_rd_at rfl _ _ 22 rfl 0 5 i0 (.int .u8 0) 1 Tryz.underlying22 hi hz0 hz1 hz2 rfl _ _ _ rfl hown 0 _ _ _ [] rfl Rd.nil rfl (by simp) ?c2 ?c3 (Nat.zero_le _) ?_)
      case c2 => unfold maxLen; omega
      case c3 => omega
      intro v' w' hown' hg hat
      have hown' : w'.ownsRow 0 5 1 v' m (cb xs) := by simpa using hown'
      obtain ⟨hL', hK, hc', hz'⟩ := hL.laid c0 hg (by simpa [World.setCell] using hat) hown' (by rw [HX.out])
      obtain ⟨a', c', rfl⟩ := own_form hown'
      have HL := Lib.hid hL'; clear hL' hown' hat
      go_wp2_with fail
      go_end0
      exact ⟨rfl, hK, _, _, HL.out, by rw [if_neg hE], fun h => absurd h hE, by omega⟩
  · have hf : firstF [.text s.data.toList] = 0 := firstF_cons (fault_text (by rw [HSZ.out]; omega))
    have HF := Lib.hid hf; clear hf
    have hb : bytesL [.text s.data.toList] = lowB (s.size : Int) 4 ++ s.data.toList := by simp only [bytesL, Tok.bytes, HSZ.out, List.append_nil]
    have HB := Lib.hid hb; clear hb
    generalize hx : xs.length = m at *
    have HX := Lib.hid hx; clear hx
    go_enter Tryz.func53, Tryz.ntmps53
    go_wp2_with fail
    refine (ref_text_ok s w (by omega)).mono ?_
    rintro e w1 ⟨o, rfl, howno, hb1⟩
    have hL1 := hL.below hb1
    obtain ⟨v, c0, c1, f0, f1, hown⟩ := hL1.open_
    rw [HX.out] at hown
    obtain ⟨ao, co, rfl, hrd, hlen⟩ := Rd.own howno
    rw [low_lowB, ← cb_append] at hrd hlen
    have HLEN := Lib.hid hlen; clear hlen
    go_wp2_with (at_builtin; refine wpList_append_rd_at rfl _ _ 22 rfl 0 5 i0 (.int .u8 0) 1 Tryz.underlying22 hi hz0 hz1 hz2 rfl _ _ _ rfl hown _ _ _ _ (cb (lowB (s.size : Int) 4 ++ s.data.toList)) rfl hrd HLEN.out (cb_one _) ?c2 ?c3 (Nat.zero_le _) ?_)
    case c2 => unfold maxLen; omega
    case c3 => omega
    intro v' w' hown' hg hat
    rw [← cb_append] at hown'
    obtain ⟨hL', hK, hc', hz'⟩ := hL1.laid c0 hg (by simpa [World.setCell] using hat) hown' (by have h := HLEN.out; rw [length_cb] at h; rw [List.length_append, HX.out, h])
    obtain ⟨a', c', rfl⟩ := own_form hown'
    have HL := Lib.hid hL'; clear hL' hown' hat
    go_wp2_with fail
    go_end0
    exact ⟨rfl, (Keeps.of_new' hb1).trans hK, _, _, HL.out, by rw [HF.out]; split <;> omega, fun _ => by rw [HB.out], by (have h := HLEN.out; rw [length_cb] at h; rw [List.length_append, HX.out, h]; have hw := HWT.out; rw [if_pos (by omega)] at hw; omega)⟩


theorem cells_add {w : World} {g o : Nat} {xs : List Value} (h : ∀ i (h : i < xs.length), w.cell? ⟨g, o + i, none⟩ = some xs[i]) : ∀ j u, xs[j]? = some u → w.cell? ((⟨g, o, none⟩ : Addr).add j) = some u := by
  intro j u hu
  obtain ⟨hj, rfl⟩ := List.getElem?_eq_some_iff.1 hu
  rw [Addr.add_mid]
  exact h j hj

/-- A call as one step of a region that draws its order. -/
theorem step_call {P : Program} {ops : Array Oper} {o : Oper} {a : Act} {w : World} {K : Act → World → Prop} {Q : Exit → Act → World → Prop} {E : Prop} {f : FuncId} (hg : o.guard = none) (args : Array Value)
    (hop : (execOp a.eval o).run P w = .ok (.enter f args) w) {R : Ending → World → Prop} (hc : Calls P f args w R)
    (hK : ∀ e w', R e w' → match e with | .returned v => K (a.put o.dst v) w' | .panicked chain => Q (.panic chain) a w' | .outgrown => LetsOut Q) :
    if Region.wanted o (yielded ops a.tmps) = true then Oper.wp P o a w K Q else E := by
  have hw : Region.wanted o (yielded ops a.tmps) = true := by simp [Region.wanted, hg]
  rw [if_pos hw]
  unfold Oper.wp
  rw [hop]
  refine hc.mono fun e w' h => ?_
  have := hK e w' h
  cases e <;> exact this

set_option maxRecDepth 100000 in
set_option maxHeartbeats 2000000 in
theorem l_whole (p : Nat) (S : Nat → Prop) (xs : List UInt8) (E n : Int) (w : World) (hL : La w S p xs E) (hroom : Room xs [.whole n]) :
    Calls Tryz.prog 112 #[.pointer (some ⟨p, 0, none⟩), .int .i64 n] w (LPost w S p xs E [.whole n]) := by
  obtain ⟨i0, hi, hz0, hz1, hz2⟩ := info_parts info_byte'
  have hr4 : xs.length + 8 ≤ 70368744177664 := by simpa [Room, wtL, Tok.wt] using hroom
  have hb : bytesL [.whole n] = wb n := by simp [bytesL, Tok.bytes]
  have HB := Lib.hid hb; clear hb
  have hLd : La w.drew S p xs E := hL
  have hplt : p < w.drew.heap.size := hL.lt
  obtain ⟨v, c0, c1, f0, f1, hown⟩ := hLd.open_
  have c0w : w.cell? ⟨p, 0, none⟩ = some v := c0
  generalize hx : xs.length = m at *
  have HX := Lib.hid hx; clear hx
  go_enter Tryz.func112, Tryz.ntmps112
  go_wp2_with fail
  go_region_law (first
    | (go_simp
       refine (ref_int_any n _).mono ?_
       rintro e w1 ⟨o, rfl, howno, hb1⟩
       have hL1 := hLd.below hb1
       have hK1 : Keeps S w w1 := Keeps.of_new' (w := w) ⟨hb1.os, hb1.tape, hb1.output, hb1.size, hb1.block⟩
       have c01 : w1.cell? ⟨p, 0, none⟩ = some v := (hb1.cell (p := ⟨p, 0, none⟩) hplt).trans c0
       have HOWN := Lib.hid (own_keep hown fun k hk => hb1.block k (World.ownsRow.lt hown k hk).2)
       obtain ⟨ao, co, rfl, hrd, hlen⟩ := Rd.own howno
       have h8 : (cb (wb n)).length = 8 := by rw [length_cb, wb, length_lowB]
       have e8 : low (IntKind.u64.wrap n) 8 = cb (wb n) := low_lowB _ _
       rw [e8] at hrd
       obtain ⟨g1, o1, rfl, _, hcs⟩ := hrd.pos (by rw [h8]; omega)
       have HNL : Hid ((cb (wb n)).length = 8 * 1) := Lib.hid h8
       have HNC := Lib.hid (cells_add hcs)
       have HM1 : Hid (m + 8 ≤ maxLen) := Lib.hid (by unfold maxLen; omega)
       have HM2 : Hid ((m + 8) * 1 ≤ 140737488355328) := Lib.hid (by omega)
       clear hlen h8 e8 hrd hcs howno)
    | (refine step_append_lies _ rfl (.tmp 8) (.tmp 10) 22 rfl 0 5 i0 (.int .u8 0) 1 1 Tryz.underlying22 hi hz0 hz1 hz2 rfl (by omega) v m (cb xs) rfl HOWN.out ⟨g1, o1, none⟩ 8 co (cb (wb n)) rfl HNL.out HNC.out (cb_one _) (by omega) HM1.out HM2.out (Nat.zero_le _) w1.heap.size rfl ?_
       intro g cap w2 hown2 hg2 hat2 hlt2
       rw [← cb_append] at hown2
       obtain ⟨hL', hK, hc', hz'⟩ := hL1.laid c01 hg2 (v' := .slice (some ⟨g, 0, none⟩) (m + 8) cap) (by rcases hat2 with e | e; exact .inl e.symm; exact .inr (by rw [e]; rfl)) hown2 (by rw [List.length_append, HX.out, wb, length_lowB])
       have HL := Lib.hid hL'
       clear hL' hown2 hat2))
  all_goals
    go_wp2_with fail
    go_end0
    exact ⟨rfl, hK1.trans hK, _, _, HL.out, by (split <;> first | rfl | (rename_i h; rw [h]; rfl)), fun _ => by rw [HB.out], by (rw [List.length_append, HX.out, wb, length_lowB]; exact Nat.le_refl _)⟩

set_option maxRecDepth 100000 in
set_option maxHeartbeats 2000000 in
theorem l_flag (p : Nat) (S : Nat → Prop) (xs : List UInt8) (E : Int) (b : Bool) (w : World) (hL : La w S p xs E) (hroom : Room xs [.flag b]) :
    Calls Tryz.prog 54 #[.pointer (some ⟨p, 0, none⟩), .bool b] w (LPost w S p xs E [.flag b]) := by
  obtain ⟨i0, hi, hz0, hz1, hz2⟩ := info_parts info_byte'
  have hr4 : xs.length + 4 ≤ 70368744177664 := by simpa [Room, wtL, Tok.wt] using hroom
  have hl1 := fun o => hL.alloc o
  obtain ⟨v, c0, c1, f0, f1, hown⟩ := hL.open_
  have hcl : ∀ o, (w.alloc o).cell? ⟨p, 0, none⟩ = some v := fun o => (Keeps.refl (S := fun _ => True)).alloc o |>.cell c0 trivial
  have hol : ∀ o, (w.alloc o).ownsRow 0 5 1 v xs.length (cb xs) := fun o => own_keep hown fun k hk => Below.heap_alloc _ _ _ (World.ownsRow.lt hown k hk).2
  have hE : E = (if E = 0 then firstF [.flag b] else E) := by split <;> first | rfl | (rename_i h; rw [h]; rfl)
  have HE := Lib.hid hE; clear hE
  have HL1 := Lib.hid hl1; clear hl1
  have HCL := Lib.hid hcl; clear hcl
  have HOL := Lib.hid hol; clear hol
  generalize hx : xs.length = m at *
  have HX := Lib.hid hx; clear hx
  cases b
  all_goals
    go_enter Tryz.func54, Tryz.ntmps54
    go_wp2_with (at_builtin; first
      | refine wpList_append_rd_at rfl _ _ 22 rfl 0 5 i0 (.int .u8 0) 1 Tryz.underlying22 hi hz0 hz1 hz2 rfl _ _ _ rfl (HOL.out _) (w.heap.size + 1) _ _ _ (cb (fb false)) rfl (Rd.fresh w (cb (fb false)) _) rfl (cb_one _) ?c2 ?c3 (Nat.zero_le _) ?_
      | refine wpList_append_rd_at rfl _ _ 22 rfl 0 5 i0 (.int .u8 0) 1 Tryz.underlying22 hi hz0 hz1 hz2 rfl _ _ _ rfl (HOL.out _) (w.heap.size + 1) _ _ _ (cb (fb true)) rfl (Rd.fresh w (cb (fb true)) _) rfl (cb_one _) ?c2 ?c3 (Nat.zero_le _) ?_)
    case c2 => unfold maxLen; omega
    case c3 => omega
    intro v' w' hown' hg hat
    rw [← cb_append] at hown'
    obtain ⟨hL', hK, hc', hz'⟩ := (HL1.out _).laid (HCL.out _) hg (by simpa using hat) hown' (by rw [List.length_append, HX.out]; rfl)
    obtain ⟨a', c', rfl⟩ := own_form hown'
    have HL := Lib.hid hL'; clear hL' hown' hat
    go_wp2_with fail
    go_end0
    exact ⟨rfl, (Keeps.refl.alloc _).trans hK, _, _, HL.out, HE.out, fun _ => by simp [bytesL, Tok.bytes], by (rw [List.length_append]; simp [wtL, Tok.wt, fb])⟩

/-- A list's number of elements: may the elements be laid? -/
def ManyPost (w : World) (S : Nat → Prop) (p : Nat) (xs : List UInt8) (E : Int) (n : Nat) (e : Ending) (w' : World) : Prop :=
  Keeps S w w' ∧ ((E = 0 ∧ n ≤ 4096 ∧ e = .returned (.bool true) ∧ La w' S p (xs ++ bytesL [.many n]) 0) ∨
    (¬ (E = 0 ∧ n ≤ 4096) ∧ e = .returned (.bool false) ∧ La w' S p xs (if E = 0 then 2 else E)))
set_option maxRecDepth 100000 in
set_option maxHeartbeats 2000000 in
theorem l_many (p : Nat) (S : Nat → Prop) (xs : List UInt8) (E : Int) (n : Nat) (w : World) (hn : n ≤ maxLen) (hL : La w S p xs E) (hroom : Room xs [.many n]) :
    Calls Tryz.prog 52 #[.pointer (some ⟨p, 0, none⟩), .int .i64 (n : Int)] w (ManyPost w S p xs E n) := by
  unfold maxLen at hn
  obtain ⟨v, c0, c1, f0, f1, hown⟩ := hL.open_
  by_cases hE : E = 0
  · subst hE
    by_cases h4 : n ≤ 4096
    · have hm : firstF [.num (n : Int)] = 0 := firstF_cons (fault_num (by omega) (by omega))
      have hb : bytesL [.num (n : Int)] = bytesL [.many n] := by simp [bytesL, Tok.bytes]
      have HM := Lib.hid hm; clear hm
      have HB := Lib.hid hb; clear hb
      go_enter Tryz.func52, Tryz.ntmps52
      go_wp2_with fail
      refine (l_number p S xs 0 (n : Int) w hL (show Room xs [.num (n : Int)] from hroom)).mono ?_
      rintro e w' ⟨rfl, hK, xs', E', hL', hs⟩
      obtain ⟨h1, h2, _⟩ := hs
      rw [if_pos rfl, HM.out] at h1
      have h2 := h2 h1
      rw [h1, h2, HB.out] at hL'
      have HL := Lib.hid hL'; clear hL' h1 h2
      go_wp2_with fail
      go_ret
      exact ⟨hK, .inl ⟨rfl, h4, rfl, HL.out⟩⟩
    · obtain ⟨h1, h2⟩ := hL.fault 2
      have HL := Lib.hid h1; clear h1
      go_enter Tryz.func52, Tryz.ntmps52
      go_wp2_with fail
      go_ret
      exact ⟨h2, .inr ⟨fun h => h4 h.2, rfl, HL.out⟩⟩
  · go_enter Tryz.func52, Tryz.ntmps52
    go_wp2_with fail
    go_ret
    exact ⟨Keeps.refl, .inr ⟨fun h => hE h.1, rfl, by rw [if_neg hE]; exact hL⟩⟩
end Go.Proofs.YtbhpbiimfcdgaaaGreat
