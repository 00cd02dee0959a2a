/-
  Layer 3's words for memory: which blocks stay ('Keeps'), what reads as a thing ('Is'), whatever the program.
-/
import Derived.Test.YtkghkioghkapcaaWireM
namespace Go.Proofs.Ytkghkioghkapcaa
open Go.RowKit

/-- The blocks of which S holds are as they were; the streams too. -/
structure Keeps (S : Nat → Prop) (w w' : World) : Prop where
  os : w'.os = w.os
  tape : w'.tape = w.tape
  output : w'.output = w.output
  size : w.heap.size ≤ w'.heap.size
  block : ∀ k, k < w.heap.size → S k → w'.heap[k]? = w.heap[k]?

section
variable {S S' : Nat → Prop} {a b c w w' : World}
theorem Keeps.refl : Keeps S w w := ⟨rfl, rfl, rfl, Nat.le_refl _, fun _ _ _ => rfl⟩
theorem Keeps.trans (h : Keeps S a b) (k : Keeps S b c) : Keeps S a c :=
  ⟨k.os.trans h.os, k.tape.trans h.tape, k.output.trans h.output, Nat.le_trans h.size k.size, fun i hi hs => (k.block i (Nat.lt_of_lt_of_le hi h.size) hs).trans (h.block i hi hs)⟩
theorem Keeps.mono (h : Keeps S a b) (hs : ∀ k, S' k → S k) : Keeps S' a b := ⟨h.os, h.tape, h.output, h.size, fun k hk h' => h.block k hk (hs k h')⟩
theorem Keeps.alloc (h : Keeps S a w) (o : Obj) : Keeps S a (w.alloc o) :=
  h.trans ⟨rfl, rfl, rfl, by simp, fun _ hk _ => Below.heap_alloc _ _ _ hk⟩
theorem Keeps.drewN (h : Keeps S a w) (n : Nat) : Keeps S a (w.drewN n) := h.trans ⟨rfl, rfl, rfl, Nat.le_refl _, fun _ _ _ => rfl⟩
theorem Keeps.drew (h : Keeps S a w) : Keeps S a w.drew := h.trans ⟨rfl, rfl, rfl, Nat.le_refl _, fun _ _ _ => rfl⟩
theorem Keeps.setCell (h : Keeps S a w) {p : Addr} (hp : ¬ S p.block) (u : Value) : Keeps S a (w.setCell p u) :=
  h.trans ⟨rfl, rfl, rfl, by simp [World.setCell], fun k _ hk => Below.heap_setCell _ _ _ _ (fun e => hp (e ▸ hk))⟩
theorem Keeps.of_below {B : Nat} (h : Below B w w') (hs : ∀ k, S k → k < B) : Keeps S w w' := ⟨h.os, h.tape, h.output, h.size, fun k _ hk => h.block k (hs k hk)⟩
theorem Keeps.of_grown {row : Option Nat} (h : w.grownBy w' row) (hs : ∀ k, row = some k → ¬ S k) : Keeps S w w' :=
  ⟨h.os, h.tape, h.output, h.size, fun k hk hk' => h.block k hk (fun e => hs k e.symm hk')⟩
theorem Keeps.below (h : Keeps S w w') {B : Nat} (hB : B ≤ w.heap.size) (hs : ∀ k, k < B → S k) : Below B w w' := ⟨h.os, h.tape, h.output, h.size, fun k hk => h.block k (by omega) (hs k hk)⟩
theorem lt_of_block {w : World} {b : Nat} {o : Obj} (h : w.heap[b]? = some o) : b < w.heap.size := by
  rcases Nat.lt_or_ge b w.heap.size with hlt | hge
  · exact hlt
  · rw [Array.getElem?_eq_none hge] at h; cases h
theorem Keeps.row (h : Keeps S w w') {b : Nat} {o : Obj} (hb : w.heap[b]? = some o) (hs : S b) : w'.heap[b]? = some o := (h.block b (lt_of_block hb) hs).trans hb
theorem Keeps.cell (h : Keeps S w w') {p : Addr} {v : Value} (hc : w.cell? p = some v) (hs : S p.block) : w'.cell? p = some v :=
  (World.cell?_of_block (h.block p.block (World.block_lt_of_cell? w p hc) hs)).trans hc
end

/-- S and the block b. -/
def Also (S : Nat → Prop) (b : Nat) (k : Nat) : Prop := S k ∨ k = b
theorem Also.left {S : Nat → Prop} {b k : Nat} (h : S k) : Also S b k := .inl h
theorem Also.new {S : Nat → Prop} {b : Nat} : Also S b b := .inr rfl
theorem Keeps.out {S : Nat → Prop} {b : Nat} {w w' : World} (h : Keeps (Also S b) w w') : Keeps S w w' := h.mono fun _ hk => .inl hk

/-- A slice's address leads to elements of 'sz' cells each, in a block of which S holds. -/
def RdT (w : World) (S : Nat → Prop) (a : Option Addr) (sz : Nat) (xss : List (List Value)) : Prop :=
  xss = [] ∨ ∃ b o, a = some ⟨b, o, none⟩ ∧ S b ∧ ∀ i x, xss[i]? = some x → ∀ j v, x[j]? = some v → w.cell? ⟨b, o + i * sz + j, none⟩ = some v
theorem RdT.keep {w w' : World} {S S' : Nat → Prop} {a : Option Addr} {sz : Nat} {xss : List (List Value)} (h : RdT w S a sz xss) (hS : ∀ k, S k → S' k) (hk : Keeps S w w') : RdT w' S' a sz xss := by
  rcases h with h | ⟨b, o, ha, hb, hc⟩
  · exact .inl h
  · exact .inr ⟨b, o, ha, hS b hb, fun i x hx j v hv => hk.cell (hc i x hx j v hv) hb⟩
theorem RdS.kept {w w' : World} {S S' : Nat → Prop} {a : Option Addr} {xs : List Value} (h : RdS w S a xs) (hS : ∀ k, S k → S' k) (hk : Keeps S w w') : RdS w' S' a xs := by
  rcases h with h | ⟨b, o, ha, hb, hc⟩
  · exact .inl h
  · exact .inr ⟨b, o, ha, hS b hb, fun i hi => hk.cell (hc i hi) hb⟩

/-- The cells 'cs' are a thing of the sort 'sh' whose fields are 'ts'; what it leads to lies in blocks of which S holds. -/
def Is (w : World) (S : Nat → Prop) : Sh → List Value → List Tok → Prop
  | .num, cs, ts => ∃ n : Int, -9223372036854775808 ≤ n ∧ n < 9223372036854775808 ∧ cs = [.int .i64 n] ∧ ts = [.num n]
  | .whole, cs, ts => ∃ n : Int, -9223372036854775808 ≤ n ∧ n < 9223372036854775808 ∧ cs = [.int .i64 n] ∧ ts = [.whole n]
  | .text, cs, ts => ∃ s : ByteArray, s.size ≤ maxLen ∧ cs = [.string s] ∧ ts = [.text s.data.toList]
  | .flag, cs, ts => ∃ b : Bool, cs = [.bool b] ∧ ts = [.flag b]
  | .two a b, cs, ts => ∃ ca cb ta tb, cs = ca ++ cb ∧ ts = ta ++ tb ∧ Is w S a ca ta ∧ Is w S b cb tb
  | .list e, cs, ts => ∃ (a : Option Addr) (len cap : Nat) (xss : List (List Value)), cs = [.slice a len cap] ∧ len ≤ cap ∧ cap ≤ maxLen ∧ xss.length = len ∧ RdT w S a e.size xss ∧
      ((4096 < len ∧ ts = [.many len]) ∨
        ∃ tss : List (List Tok), len ≤ 4096 ∧ tss.length = len ∧ ts = .many len :: tss.flatten ∧ ∀ (i : Nat) (x : List Value) (t : List Tok), xss[i]? = some x → tss[i]? = some t → Is w S e x t)

section
variable {w w' : World} {S S' : Nat → Prop}
theorem Is.keep (hS : ∀ k, S k → S' k) (hk : Keeps S w w') : ∀ {sh : Sh} {cs : List Value} {ts : List Tok}, Is w S sh cs ts → Is w' S' sh cs ts := by
  intro sh
  induction sh with
  | num | whole | text | flag => exact fun h => h
  | two a b iha ihb => rintro cs ts ⟨ca, cb, ta, tb, h1, h2, h3, h4⟩; exact ⟨ca, cb, ta, tb, h1, h2, iha h3, ihb h4⟩
  | list e ih =>
    rintro cs ts ⟨a, len, cap, xss, h1, h2, h3, h4, h5, h6⟩
    refine ⟨a, len, cap, xss, h1, h2, h3, h4, h5.keep hS hk, ?_⟩
    rcases h6 with h6 | ⟨tss, g1, g2, g3, g4⟩
    · exact .inl h6
    · exact .inr ⟨tss, g1, g2, g3, fun i x t hx ht => ih (g4 i x t hx ht)⟩
theorem Is.also {sh : Sh} {cs : List Value} {ts : List Tok} (h : Is w S sh cs ts) {b : Nat} (hk : Keeps S w w') : Is w' (Also S b) sh cs ts := h.keep (fun _ => .inl) hk
theorem Is.size : ∀ {sh : Sh} {cs : List Value} {ts : List Tok}, Is w S sh cs ts → cs.length = sh.size := by
  intro sh
  induction sh with
  | num => rintro cs ts ⟨n, _, _, rfl, _⟩; rfl
  | whole => rintro cs ts ⟨n, _, _, rfl, _⟩; rfl
  | text => rintro cs ts ⟨n, _, rfl, _⟩; rfl
  | flag => rintro cs ts ⟨n, rfl, _⟩; rfl
  | two a b iha ihb => rintro cs ts ⟨ca, cb, ta, tb, rfl, _, h3, h4⟩; simp [Sh.size, iha h3, ihb h4]
  | list e ih => rintro cs ts ⟨a, len, cap, xss, rfl, _⟩; rfl
theorem Is.oneCell : ∀ {sh : Sh} {cs : List Value} {ts : List Tok}, Is w S sh cs ts → ∀ v ∈ cs, v.oneCell' = true := by
  intro sh
  induction sh with
  | num => rintro cs ts ⟨n, _, _, rfl, _⟩ v hv; rw [List.mem_singleton.1 hv]; rfl
  | whole => rintro cs ts ⟨n, _, _, rfl, _⟩ v hv; rw [List.mem_singleton.1 hv]; rfl
  | text => rintro cs ts ⟨n, _, rfl, _⟩ v hv; rw [List.mem_singleton.1 hv]; rfl
  | flag => rintro cs ts ⟨n, rfl, _⟩ v hv; rw [List.mem_singleton.1 hv]; rfl
  | two a b iha ihb =>
    rintro cs ts ⟨ca, cb, ta, tb, rfl, _, h3, h4⟩ v hv
    rcases List.mem_append.1 hv with hv | hv
    · exact iha h3 v hv
    · exact ihb h4 v hv
  | list e ih => rintro cs ts ⟨a, len, cap, xss, rfl, _⟩ v hv; rw [List.mem_singleton.1 hv]; rfl
theorem Is.fit : ∀ {sh : Sh} {cs : List Value} {ts : List Tok}, Is w S sh cs ts → Fit sh ts := by
  intro sh
  induction sh with
  | num => rintro cs ts ⟨n, _, _, _, rfl⟩; exact ⟨n, rfl⟩
  | whole => rintro cs ts ⟨n, h1, h2, _, rfl⟩; exact ⟨n, h1, h2, rfl⟩
  | text => rintro cs ts ⟨s, _, _, rfl⟩; exact ⟨_, rfl⟩
  | flag => rintro cs ts ⟨b, _, rfl⟩; exact ⟨b, rfl⟩
  | two a b iha ihb => rintro cs ts ⟨ca, cb, ta, tb, _, rfl, h3, h4⟩; exact ⟨ta, tb, rfl, iha h3, ihb h4⟩
  | list e ih =>
    rintro cs ts ⟨a, len, cap, xss, _, _, _, hl, _, h6⟩
    rcases h6 with ⟨g1, rfl⟩ | ⟨tss, g1, g2, rfl, g4⟩
    · exact ⟨len, [], .inl ⟨g1, rfl⟩⟩
    · refine ⟨len, tss, .inr ⟨g1, g2, rfl, fun t ht => ?_⟩⟩
      obtain ⟨i, hi⟩ := List.mem_iff_getElem?.1 ht
      have hi' : i < tss.length := (List.getElem?_eq_some_iff.1 hi).1
      exact ih (g4 i _ t (List.getElem?_eq_getElem (show i < xss.length by omega)) hi)

/-- How many bytes a thing of this sort takes, at most. -/
def Sh.most : Sh → Nat
  | .two a b => a.most + b.most
  | .list e => 4 + 4096 * e.most
  | .text => 65540
  | _ => 8
theorem wt_flatten (m : Nat) : ∀ (tss : List (List Tok)), (∀ t ∈ tss, wtL t ≤ m) → wtL tss.flatten ≤ tss.length * m
  | [], _ => by simp [wtL]
  | t :: r, h => by
    have h1 := h t List.mem_cons_self
    have h2 := wt_flatten m r fun x hx => h x (List.mem_cons_of_mem _ hx)
    rw [List.flatten_cons, wtL_append, List.length_cons, Nat.succ_mul]
    omega
theorem Fit.most : ∀ {sh : Sh} {ts : List Tok}, Fit sh ts → wtL ts ≤ sh.most := by
  intro sh
  induction sh with
  | num => rintro ts ⟨n, rfl⟩; simp [wtL, Tok.wt, Sh.most]
  | whole => rintro ts ⟨n, _, _, rfl⟩; simp [wtL, Tok.wt, Sh.most]
  | text => rintro ts ⟨s, rfl⟩; simp only [wtL, Tok.wt, Sh.most]; split <;> omega
  | flag => rintro ts ⟨b, rfl⟩; simp [wtL, Tok.wt, Sh.most]
  | two a b iha ihb => rintro ts ⟨ta, tb, rfl, h3, h4⟩; have := iha h3; have := ihb h4; simp only [wtL_append, Sh.most]; omega
  | list e ih =>
    rintro ts ⟨n, tss, ⟨g1, rfl⟩ | ⟨g1, g2, rfl, g4⟩⟩
    · simp [wtL, Tok.wt, Sh.most]
    · have := wt_flatten e.most tss fun t ht => ih (g4 t ht)
      have h2 : tss.length * e.most ≤ 4096 * e.most := Nat.mul_le_mul_right _ (by omega)
      simp only [wtL, Tok.wt, Sh.most]; omega
end
end Go.Proofs.Ytkghkioghkapcaa
