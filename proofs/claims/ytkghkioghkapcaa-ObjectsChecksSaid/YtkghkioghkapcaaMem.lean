/-
  WORDS FOR MEMORY, of our own: 'Rd' (a slice that reads as a row of cells, nil let in), a copy whose world is written out, what becomes of a new block under it.
-/
import Derived.WalkKit
import Derived.WalkLawsBesides
import Derived.Laws.CopyOwn
import Derived.Lib.Hide
import Derived.Deep.Draws
namespace Go.Proofs.Ytkghkioghkapcaa
open Go.RowKit

/-- The slice address 'a' leads to the cells 'xs', all in a block below B; of an empty row nothing is asked. -/
def Rd (w : World) (B : Nat) (a : Option Addr) (xs : List Value) : Prop :=
  xs = [] ∨ ∃ b o, a = some ⟨b, o, none⟩ ∧ b < B ∧ ∀ i (h : i < xs.length), w.cell? ⟨b, o + i, none⟩ = some xs[i]

section
variable {w w' : World} {B B' : Nat} {a : Option Addr} {xs : List Value}

theorem Rd.nil : Rd w B a [] := .inl rfl

theorem Rd.keep (h : Rd w B a xs) (hk : ∀ p : Addr, p.block < B → w'.cell? p = w.cell? p) : Rd w' B a xs := by
  rcases h with h | ⟨b, o, ha, hb, hc⟩
  · exact .inl h
  · exact .inr ⟨b, o, ha, hb, fun i hi => (hk _ hb).trans (hc i hi)⟩

theorem Rd.more (h : Rd w B a xs) (hB : B ≤ B') : Rd w B' a xs := by
  rcases h with h | ⟨b, o, ha, hb, hc⟩
  · exact .inl h
  · exact .inr ⟨b, o, ha, Nat.lt_of_lt_of_le hb hB, hc⟩

theorem Rd.below (h : Rd w B a xs) (hb : Below B' w w') (hB : B ≤ B') : Rd w' B a xs :=
  h.keep fun _ hp => hb.cell (Nat.lt_of_lt_of_le hp hB)

theorem Rd.alloc (h : Rd w B a xs) (hB : B ≤ w.heap.size) (o : Obj) : Rd (w.alloc o) B a xs :=
  h.keep fun _ hp => ((Below.refl B w).alloc hB o).cell hp

theorem Rd.pos (h : Rd w B a xs) (hn : 0 < xs.length) :
    ∃ b o, a = some ⟨b, o, none⟩ ∧ b < B ∧ ∀ i (h : i < xs.length), w.cell? ⟨b, o + i, none⟩ = some xs[i] := by
  rcases h with h | h
  · subst h; simp at hn
  · exact h

theorem Rd.take (h : Rd w B a xs) (k : Nat) : Rd w B a (xs.take k) := by
  rcases h with h | ⟨b, o, ha, hb, hc⟩
  · subst h; exact .inl (by simp)
  · exact .inr ⟨b, o, ha, hb, fun i hi => by
      have hi' : i < xs.length := by simp at hi; omega
      rw [hc i hi']; simp⟩

theorem Rd.drop {b o : Nat} (h : Rd w B (some ⟨b, o, none⟩) xs) (k : Nat) : Rd w B (some ⟨b, o + k, none⟩) (xs.drop k) := by
  rcases h with h | ⟨b', o', ha, hb, hc⟩
  · subst h; exact .inl (by simp)
  · simp only [Option.some.injEq, Addr.mk.injEq, and_true] at ha
    obtain ⟨rfl, rfl⟩ := ha
    refine .inr ⟨b, o + k, rfl, hb, fun i hi => ?_⟩
    have hi' : k + i < xs.length := by simp at hi; omega
    rw [Nat.add_assoc, hc (k + i) hi']; simp

/-- A block that is known whole reads as its cells. -/
theorem Rd.row {g : Nat} {L : List Value} {t : TypeId} {fr : Nat × Nat} (hg : w.heap[g]? = some (.cells L.toArray t fr)) (hB : g < B)
    {off n : Nat} (hl : off + n ≤ L.length) : Rd w B (some ⟨g, off, none⟩) ((L.drop off).take n) := by
  refine .inr ⟨g, off, rfl, hB, fun i hi => ?_⟩
  rw [cell_of_row w g (off + i) L.toArray t fr hg]
  simp at hi
  simp [List.getElem?_eq_getElem (show off + i < L.length by omega)]
end

theorem Rd.drewN {w : World} {B : Nat} {a : Option Addr} {xs : List Value} (h : Rd w B a xs) (k : Nat) : Rd (w.drewN k) B a xs := h.keep fun _ _ => rfl
/-- The slice address 'a' leads to the cells 'xs', all in a block of which S holds; of an empty row nothing is asked. -/
def RdS (w : World) (S : Nat → Prop) (a : Option Addr) (xs : List Value) : Prop :=
  xs = [] ∨ ∃ b o, a = some ⟨b, o, none⟩ ∧ S b ∧ ∀ i (h : i < xs.length), w.cell? ⟨b, o + i, none⟩ = some xs[i]
theorem RdS.rd {w : World} {S : Nat → Prop} {B : Nat} {a : Option Addr} {xs : List Value} (h : RdS w S a xs) (hS : ∀ b, S b → b < B) : Rd w B a xs := by
  rcases h with h | ⟨b, o, ha, hb, hc⟩
  · exact .inl h
  · exact .inr ⟨b, o, ha, hS b hb, hc⟩
theorem RdS.rd_any {w : World} {S : Nat → Prop} {a : Option Addr} {xs : List Value} (h : RdS w S a xs) : ∃ B, Rd w B a xs := by
  rcases h with h | ⟨b, o, ha, hb, hc⟩
  · exact ⟨0, .inl h⟩
  · exact ⟨b + 1, .inr ⟨b, o, ha, Nat.lt_succ_self b, hc⟩⟩
theorem Rd.rdS {w : World} {B : Nat} {a : Option Addr} {xs : List Value} (h : Rd w B a xs) : RdS w (· < B) a xs := h
theorem RdS.keep {w w' : World} {S S' : Nat → Prop} {a : Option Addr} {xs : List Value} (h : RdS w S a xs) (hS : ∀ b, S b → S' b) (hk : ∀ p : Addr, S p.block → w'.cell? p = w.cell? p) : RdS w' S' a xs := by
  rcases h with h | ⟨b, o, ha, hb, hc⟩
  · exact .inl h
  · exact .inr ⟨b, o, ha, hS b hb, fun i hi => (hk _ hb).trans (hc i hi)⟩

/-- A new block whose cells are all replaced is a new block of the new cells. -/
theorem setRow_alloc (w : World) (X Y : Array Value) (t : TypeId) : (w.alloc (.cells X t)).setRow w.heap.size Y = w.alloc (.cells Y t) := by
  unfold World.setRow World.alloc
  simp only
  congr 1
  apply Array.ext
  · simp
  · intro i h1 h2
    simp only [Array.getElem_modify, Array.getElem_push]
    split
    · rename_i h; subst h; simp
    · simp at h1
      split
      · rfl
      · omega

/-- 'copy(dst, src)', dst lying in a block that is known whole: the world behind it, written out. -/
theorem wpList_copy_rd {P : Program} {w : World} {ops : Array Oper} {rest : List Oper} {o : Oper} {a : Act} {Q : Exit → Act → World → Prop} (hgd : o.guard = none) (d s : Operand) (dT sT : TypeId)
    (ho : o.op = .call { callee := .builtin .copy, args := #[d, s], argTypes := #[dT, sT] }) (elem : TypeId) (hu : P.underlying dT = some (.slice elem)) (hsz : (P.info? elem).map (·.size) = some 1)
    (dp sp : Option Addr) (dLen dCap sLen sCap : Nat) (hd : a.eval d = .slice dp dLen dCap) (hs : a.eval s = .slice sp sLen sCap)
    (g off B : Nat) (cur : List Value) (t : TypeId) (hg : w.heap[g]? = some (.cells cur.toArray t (0, 0))) (cs : List Value) (hn : cs.length = Nat.min sLen dLen)
    (hdp : 0 < cs.length → dp = some ⟨g, off, none⟩) (hrd : Rd w B sp cs)
    (hfit : off + cs.length ≤ cur.length) (h1 : ∀ v ∈ cs, v.oneCell' = true)
    (h : wpList P ops Q rest (a.put o.dst (goInt cs.length)) (w.setRow g (splice cur off cs).toArray)) :
    wpList P ops Q (o :: rest) a w := by
  by_cases h0 : cs.length = 0
  · obtain rfl : cs = [] := List.eq_nil_of_length_eq_zero h0
    refine wpList_copy_nothing hgd d s dT sT ho elem hu hsz dp sp dLen dCap sLen sCap hd hs (by simpa using hn.symm) ?_
    have e : w.setRow g (splice cur off []).toArray = w := by
      have : (splice cur off []).toArray = cur.toArray := by simp [splice]
      rw [this]; exact setRow_self w g cur.toArray t (0, 0) hg
    rw [e] at h
    exact h
  · obtain rfl := hdp (by omega)
    obtain ⟨b, o', rfl, _, hc⟩ := hrd.pos (by omega)
    refine wpList_copy_own hgd d s dT sT ho elem hu hsz g off dLen dCap ⟨b, o', none⟩ sLen sCap hd hs cur.toArray t hg cs hn (fun j v hv => ?_) (by simpa using hfit) h1 ?_
    · obtain ⟨hj, rfl⟩ := List.getElem?_eq_some_iff.1 hv
      have := hc j hj
      unfold Addr.add
      split
      · rename_i hz; subst hz; simpa using this
      · exact this
    · simpa [splice] using h

/-- The same, the world behind it under a name. -/
theorem wpList_copy_rd' {P : Program} {w : World} {ops : Array Oper} {rest : List Oper} {o : Oper} {a : Act} {Q : Exit → Act → World → Prop} (hgd : o.guard = none) (d s : Operand) (dT sT : TypeId)
    (ho : o.op = .call { callee := .builtin .copy, args := #[d, s], argTypes := #[dT, sT] }) (elem : TypeId) (hu : P.underlying dT = some (.slice elem)) (hsz : (P.info? elem).map (·.size) = some 1)
    (dp sp : Option Addr) (dLen dCap sLen sCap : Nat) (hd : a.eval d = .slice dp dLen dCap) (hs : a.eval s = .slice sp sLen sCap)
    (g off B : Nat) (cur : List Value) (t : TypeId) (hg : w.heap[g]? = some (.cells cur.toArray t (0, 0))) (cs : List Value) (hn : cs.length = Nat.min sLen dLen)
    (hdp : 0 < cs.length → dp = some ⟨g, off, none⟩) (hrd : Rd w B sp cs)
    (hfit : off + cs.length ≤ cur.length) (h1 : ∀ v ∈ cs, v.oneCell' = true) (w1 : World) (hw : w.setRow g (splice cur off cs).toArray = w1)
    (h : wpList P ops Q rest (a.put o.dst (goInt cs.length)) w1) :
    wpList P ops Q (o :: rest) a w := by
  subst hw
  exact wpList_copy_rd hgd d s dT sT ho elem hu hsz dp sp dLen dCap sLen sCap hd hs g off B cur t hg cs hn hdp hrd hfit h1 h

/-- Bytes as cells. -/
def cb (bs : List UInt8) : List Value := bs.map fun b => .int .u8 (b.toNat : Int)
@[simp] theorem length_cb (bs : List UInt8) : (cb bs).length = bs.length := by simp [cb]
theorem cb_append (a b : List UInt8) : cb (a ++ b) = cb a ++ cb b := by simp [cb]
theorem cb_one (bs : List UInt8) : ∀ v ∈ cb bs, v.oneCell' = true := by
  intro v hv
  simp only [cb, List.mem_map] at hv
  obtain ⟨b, _, rfl⟩ := hv
  rfl
/-- 'n' cells that are noughts: a name of its own, which the walk's simp leaves standing. -/
def zb (n : Nat) : List Value := List.replicate n (.int .u8 0)
@[simp] theorem length_zb (n : Nat) : (zb n).length = n := by simp [zb]
theorem made_zb (n : Nat) : madeCells #[.int .u8 0] n = (zb n).toArray := by
  apply Array.ext'
  rw [toList_madeCells_one]; rfl
theorem splice_zb {xs : List Value} {n : Nat} (h : xs.length = n) (room : Nat) : splice (zb (n + room)) 0 xs = xs ++ zb room := by
  simp [splice, zb, List.drop_replicate, h]
theorem splice_end {xs ys : List Value} {n m : Nat} (h : xs.length = n) (hy : ys.length = m) : splice (xs ++ zb m) n ys = xs ++ ys := by
  subst h; subst hy
  simp only [splice, List.take_left']
  rw [List.drop_eq_nil_of_le (by simp)]; simp
theorem splice_two {xs ys zs : List Value} {n m k : Nat} (h : xs.length = n) (hy : ys.length = k) (hz : zs.length = m) : splice (splice (xs ++ zb (k + m)) n ys) (n + k) zs = xs ++ (ys ++ zs) := by
  subst h; subst hy; subst hz
  have e1 : splice (xs ++ zb (ys.length + zs.length)) xs.length ys = (xs ++ ys) ++ zb zs.length := by
    simp only [splice, List.take_left', zb]
    rw [List.drop_append, List.drop_eq_nil_of_le (by omega)]
    simp [List.drop_replicate]
  rw [e1, splice_end (by simp) rfl, List.append_assoc]
theorem length_splice' {xs ys : List Value} {n : Nat} (h : n + ys.length ≤ xs.length) : (splice xs n ys).length = xs.length := length_splice xs n ys h
/-- One cell more of a splice is one store. -/
theorem splice_snoc {xs ys : List Value} {n : Nat} (h : n + ys.length < xs.length) (v : Value) : (splice xs n ys).toArray.setIfInBounds (n + ys.length) v = (splice xs n (ys ++ [v])).toArray := by
  apply Array.ext'
  simp only [Array.toList_setIfInBounds, splice, List.length_append, List.length_singleton]
  rw [List.set_append_right _ _ (by simp; omega)]
  have e1 : n + ys.length - (List.take n xs).length = ys.length := by simp; omega
  rw [e1, List.set_append_right _ _ (by omega), Nat.sub_self]
  have e2 : xs.drop (n + ys.length) = xs[n + ys.length] :: xs.drop (n + ys.length + 1) := List.drop_eq_getElem_cons h
  rw [e2]
  simp [Nat.add_assoc]
theorem setCell_splice {w : World} {g n : Nat} {t : TypeId} {xs ys : List Value} (hg : w.heap[g]? = some (.cells xs.toArray t (0, 0))) (h : n + ys.length < xs.length) (v : Value) :
    (w.setRow g (splice xs n ys).toArray).setCell ⟨g, n + ys.length, none⟩ v = w.setRow g (splice xs n (ys ++ [v])).toArray := by
  rw [setCell_eq_setRow _ g (n + ys.length) (splice xs n ys).toArray t (0, 0) v (setRow_heap w g _ _ t (0, 0) hg), setRow_setRow, splice_snoc h]
/-- The bytes of a number, the lowest first, as cells. -/
def low (v : Int) (k : Nat) : List Value := (List.range k).map fun i => .int .u8 (v / 2 ^ (8 * i) % 256)
@[simp] theorem length_low (v : Int) (k : Nat) : (low v k).length = k := by simp [low]
theorem low_succ (v : Int) (k : Nat) : low v (k + 1) = low v k ++ [.int .u8 (v / 2 ^ (8 * k) % 256)] := by simp [low, List.range_succ]
/-- The number that bytes are, the lowest first. -/
def le : List UInt8 → Nat
  | [] => 0
  | b :: r => b.toNat + 256 * le r
theorem le_lt : ∀ bs : List UInt8, le bs < 256 ^ bs.length
  | [] => by simp [le]
  | b :: r => by
    have h := le_lt r
    have hb := b.toNat_lt
    simp only [le, List.length_cons, Nat.pow_succ]
    omega
theorem le_append : ∀ a b : List UInt8, le (a ++ b) = le a + 256 ^ a.length * le b
  | [], b => by simp [le]
  | x :: r, b => by
    simp only [List.cons_append, le, le_append r b, List.length_cons, Nat.pow_succ]
    rw [Nat.mul_add, Nat.add_assoc]
    congr 2
    rw [Nat.mul_comm (256 ^ r.length) 256, Nat.mul_assoc]
theorem take_snoc' {α : Type} (l : List α) (k : Nat) (h : k < l.length) : l.take (k + 1) = l.take k ++ [l[k]] := by
  rw [List.take_succ_eq_append_getElem h]
theorem pow256 (k : Nat) : 256 ^ k = 2 ^ (8 * k) := by rw [Nat.pow_mul]
theorem le_take_succ (bs : List UInt8) (k : Nat) (h : k < bs.length) : le (bs.take (k + 1)) = le (bs.take k) + bs[k].toNat * 2 ^ (8 * k) := by
  rw [take_snoc' bs k h, le_append]
  have : (bs.take k).length = k := by simp; omega
  rw [this, pow256]
  simp [le, Nat.mul_comm]
theorem le_take_lt (bs : List UInt8) (k : Nat) (h : k ≤ bs.length) : le (bs.take k) < 2 ^ (8 * k) := by
  have := le_lt (bs.take k)
  rw [show (bs.take k).length = k from by simp; omega, pow256] at this
  exact this
/-- A byte above the number's bytes: 'or' is '+'. -/
theorem or_shift (x b k : Nat) (hx : x < 2 ^ k) : x ||| b * 2 ^ k = x + b * 2 ^ k := by
  rw [Nat.mul_comm, Nat.add_comm, Nat.two_pow_add_eq_or_of_lt hx, Nat.or_comm]
theorem le_step (bs : List UInt8) (k : Nat) (h : k < bs.length) (h8 : k < 8) :
    bits .or .u64 (le (bs.take k) : Int) (IntKind.u64.wrap (IntKind.u64.wrap (bs[k].toNat : Int) * 2 ^ (8 * k))) = (le (bs.take (k + 1)) : Int) := by
  have hb := bs[k].toNat_lt
  have hx := le_take_lt bs k (by omega)
  have hp : 2 ^ (8 * k) ≤ 2 ^ 56 := Nat.pow_le_pow_right (by omega) (by omega)
  have hm : bs[k].toNat * 2 ^ (8 * k) ≤ 255 * 2 ^ 56 := Nat.mul_le_mul (by omega) hp
  have e1 : IntKind.u64.wrap (bs[k].toNat : Int) = (bs[k].toNat : Int) := by rw [IntKind.wrap_u64]; omega
  have e2 : IntKind.u64.wrap ((bs[k].toNat : Int) * 2 ^ (8 * k)) = ((bs[k].toNat * 2 ^ (8 * k) : Nat) : Int) := by
    rw [show ((bs[k].toNat : Int) * 2 ^ (8 * k)) = ((bs[k].toNat * 2 ^ (8 * k) : Nat) : Int) from by simp, IntKind.wrap_u64]
    omega
  rw [e1, e2, u64_or_nat _ _ (by omega) (by omega), or_shift _ _ _ hx, le_take_succ bs k h]
theorem cb_drop (bs : List UInt8) (k : Nat) : (cb bs).drop k = cb (bs.drop k) := by simp [cb, List.map_drop]
theorem cb_take (bs : List UInt8) (k : Nat) : (cb bs).take k = cb (bs.take k) := by simp [cb, List.map_take]
/-- 'copy(dst, s)', s a string that fits, dst lying in a block that is known whole. -/
theorem wpList_copy_str {P : Program} {w : World} {ops : Array Oper} {rest : List Oper} {o : Oper} {a : Act} {Q : Exit → Act → World → Prop} (hgd : o.guard = none) (d s : Operand) (dT sT : TypeId)
    (ho : o.op = .call { callee := .builtin .copy, args := #[d, s], argTypes := #[dT, sT] }) (elem : TypeId) (hu : P.underlying dT = some (.slice elem)) (hsz : (P.info? elem).map (·.size) = some 1)
    (dp : Option Addr) (dLen dCap : Nat) (str : ByteArray) (hd : a.eval d = .slice dp dLen dCap) (hs : a.eval s = .string str)
    (g off : Nat) (cur : List Value) (t : TypeId) (hg : w.heap[g]? = some (.cells cur.toArray t (0, 0))) (hle : str.size ≤ dLen)
    (hdp : 0 < str.size → dp = some ⟨g, off, none⟩) (hfit : off + str.size ≤ cur.length)
    (h : wpList P ops Q rest (a.put o.dst (goInt str.size)) (w.setRow g (splice cur off (cb str.data.toList)).toArray)) :
    wpList P ops Q (o :: rest) a w := by
  have hlen : (cb str.data.toList).length = str.size := by rw [length_cb, Array.length_toList]; rfl
  have hmin : Nat.min str.size dLen = str.size := Nat.min_eq_left hle
  have htk : List.take str.size (List.map (fun b : UInt8 => Value.int IntKind.u8 (b.toNat : Int)) str.data.toList) = cb str.data.toList := by
    rw [List.take_of_length_le (by rw [List.length_map, Array.length_toList]; exact Nat.le_refl _)]
    rfl
  have hrun : (Builtin.copy_ #[dT, sT] o.type #[.slice dp dLen dCap, .string str]).run P w = .ok (goInt str.size) (w.setRow g (splice cur off (cb str.data.toList)).toArray) := by
    cases hq : P.info? elem with
    | none => simp [hq] at hsz
    | some i =>
      by_cases h0 : str.size = 0
      · have hnil : cb str.data.toList = [] := List.eq_nil_of_length_eq_zero (by rw [hlen, h0])
        rw [hnil, show splice cur off [] = cur from by simp [splice], setRow_self w g cur.toArray t (0, 0) hg]
        cases dp <;> simp [Builtin.copy_, run_underlying hu, Builtin.lenOf, Builtin.firstCells, sizeOf, typeInfo, hq, h0, storeCells]
      · obtain rfl := hdp (by omega)
        have hst := run_storeCells_at P g off t (cb str.data.toList) 0 cur.toArray w hg (by rw [hlen]; simpa using hfit) (cb_one _)
        rw [hlen] at hst
        simp only [Nat.add_zero] at hst
        simp [Builtin.copy_, run_underlying hu, Builtin.lenOf, Builtin.firstCells, sizeOf, typeInfo, hq, hmin]
        rw [htk, hst]
        simp [Result.andThen, splice, hlen]
  refine wpList_plain hgd fun K hK => ?_
  unfold Oper.wp
  simp [execOp, ho, resolve, invoke, builtin, hd, hs, hrun, Result.andThen]
  exact hK _ _ h
theorem push_bytes : ∀ (bs : List UInt8) (s : ByteArray), ((bs.map fun b => (b.toNat : Int)).foldl (fun r n => r.push (UInt8.ofNat n.toNat)) s).data.toList = s.data.toList ++ bs
  | [], s => by simp
  | b :: r, s => by
    simp only [List.map_cons, List.foldl_cons]
    rw [push_bytes r]
    simp [ByteArray.push]
/-- 'string(b)' of a slice that reads as bytes. -/
theorem run_string_of {P : Program} {w : World} {B : Nat} {a : Option Addr} {bs : List UInt8} (h : Rd w B a (cb bs)) (src dst e : TypeId) (n c : Nat) (hn : bs.length = n)
    (hs : P.underlying src = some (.slice e)) (he : P.underlying e = some (.int .u8)) (hd : P.underlying dst = some .string) :
    (convert src dst (.slice a n c)).run P w = .ok (.string ⟨bs.toArray⟩) w := by
  rw [run_convert_bytes_string w src dst e a n c hs he hd]
  subst hn
  cases a with
  | none =>
    rcases h with h | ⟨b, o, ha, _⟩
    · have : bs = [] := by simpa [cb] using h
      subst this
      rfl
    · cases ha
  | some x =>
    have hl : (loadCells x bs.length).run P w = .ok (((bs.map fun b => (b.toNat : Int)).map (Value.int .u8)).toArray) w := by
      have e1 : (bs.map fun b => (b.toNat : Int)).map (Value.int .u8) = cb bs := by simp [cb, Function.comp_def]
      rw [e1]
      have h2 := run_loadCells_list (P := P) (w := w) x (cb bs) (fun j v hv => by
        rcases h with h | ⟨b, o, ha, _, hc⟩
        · rw [h] at hv; simp at hv
        · obtain ⟨hj, rfl⟩ := List.getElem?_eq_some_iff.1 hv
          simp only [Option.some.injEq] at ha
          subst ha
          have := hc j hj
          unfold Addr.add
          split
          · rename_i hz; subst hz; simpa using this
          · exact this)
      simpa using h2
    rw [run_bytesToString w x bs.length c _ hl]
    congr 2
    apply ByteArray.ext
    apply Array.ext'
    rw [push_bytes]
    simp

/-- 'append(v, src...)', v a row of the call's own, src whatever reads as cells (nil let in); elements of one cell. -/
theorem wpList_append_rd {P : Program} {w : World} {ops : Array Oper} {rest : List Oper} {o : Oper} {a : Act} {Q : Exit → Act → World → Prop} (hgd : o.guard = none) (s x : Operand) (t : TypeId)
    (ho : o.op = .call { callee := .builtin .append, args := #[s, x], argTypes := #[t, t] })
    (base : Nat) (e : TypeId) (i : TypeInfo) (z : Value) (bytes : Nat) (ht : P.underlying t = some (.slice e)) (hi : P.info? e = some i) (hz : i.zero = some z)
    (hsize : i.size = 1) (hby : i.bytes = bytes) (hzs : z.cells.size = 1)
    (v : Value) (n : Nat) (xs : List Value) (hs : a.eval s = v) (hown : w.ownsRow base e 1 v n xs)
    (B : Nat) (A : Option Addr) (m c : Nat) (news : List Value) (hx : a.eval x = .slice A m c) (hr : Rd w B A news) (hl : news.length = m) (h1 : ∀ u ∈ news, u.oneCell' = true)
    (h63 : n + m ≤ maxLen) (hbytes : (n + m) * bytes ≤ 140737488355328) (hbase : base ≤ w.heap.size)
    (h : ∀ v' w', w'.ownsRow base e 1 v' (n + m) (xs ++ news) → w.grownBy w' v.ownBlock → wpList P ops Q rest (a.put o.dst v') w') : wpList P ops Q (o :: rest) a w := by
  have run : ∃ v' w', (Builtin.append_ #[t, t] o.type #[v, .slice A m c]).run P w = .ok v' w' ∧ w'.ownsRow base e 1 v' (n + m) (xs ++ news) ∧ w.grownBy w' v.ownBlock := by
    cases A with
    | none =>
      have hn : news = [] := by
        rcases hr with h | ⟨b, o, ha, _⟩
        · exact h
        · cases ha
      subst hn
      obtain rfl : m = 0 := by simpa using hl.symm
      refine ⟨v, w, ?_, by simpa using hown, World.grownBy.refl w _⟩
      rcases hown.2 with ⟨rfl, rfl⟩ | ⟨g, cap, cur, rfl, _, _, hnc, _⟩
      · simp [Builtin.append_, run_underlying ht, sizeOf, typeInfo, hi, Builtin.lenOf, Builtin.firstCells]
      · simp [Builtin.append_, run_underlying ht, sizeOf, typeInfo, hi, Builtin.lenOf, Builtin.firstCells, hnc, storeCells]
    | some ad =>
      obtain ⟨v', w', hr, h2, h3, _⟩ := run_append_own (P := P) w base t o.type e i z 1 bytes ht hi hz hsize hby hzs (by omega) v n xs hown ad m c news (by omega) (fun j u hu => by
        rcases hr with h | ⟨b, o, ha, _, hc⟩
        · rw [h] at hu; simp at hu
        · obtain ⟨hj, rfl⟩ := List.getElem?_eq_some_iff.1 hu
          simp only [Option.some.injEq] at ha
          subst ha
          have := hc j hj
          unfold Addr.add
          split
          · rename_i hz; subst hz; simpa using this
          · exact this) h1 h63 hbytes hbase
      exact ⟨v', w', hr, h2, h3⟩
  obtain ⟨v', w', hr, h2, h3⟩ := run
  refine wpList_plain hgd fun K hK => ?_
  unfold Oper.wp execOp
  simp only [ho, resolve, invoke, builtin, Sem.run_bind, Sem.run_pure, Result.andThen_ok, List.map_toArray, List.map_cons, List.map_nil, hs, hx, hr]
  exact hK _ _ (h v' w' h2 h3)

/-- A new block of bytes is a row of the call's own. -/
theorem own_new (w : World) (base : Nat) (e : TypeId) (xs : List Value) (n : Nat) (hn : xs.length = n) (hb : base ≤ w.heap.size) (hm : n ≤ maxLen) :
    (w.alloc (.cells xs.toArray e)).ownsRow base e 1 (.slice (some ⟨w.heap.size, 0, none⟩) n n) n xs := by
  subst hn
  exact ⟨by simp, .inr ⟨w.heap.size, _, _, rfl, hb, heap_alloc_new w _, Nat.le_refl _, hm, by simp, by simp⟩⟩
end Go.Proofs.Ytkghkioghkapcaa
