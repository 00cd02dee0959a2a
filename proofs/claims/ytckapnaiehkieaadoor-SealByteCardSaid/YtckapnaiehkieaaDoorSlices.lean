/-
  Rows of slices: each element is a slice that reads as bytes; a row of the call's own to which such an element is appended.
-/
import Derived.Test.YtckapnaiehkieaaDoorCodecA
import Derived.Maps.AppendAt
namespace Go.Proofs.YtckapnaiehkieaaDoor
open Go.RowKit

/-- The cells 'xs' are slices that read as the bytes 'bss', in blocks of which S holds. -/
def Rows (w : World) (S : Nat → Prop) : List Value → List (List UInt8) → Prop
  | [], [] => True
  | v :: vs, b :: bs => (∃ a cap, v = .slice a b.length cap ∧ RdS w S a (cb b)) ∧ Rows w S vs bs
  | _, _ => False

section
variable {w w' : World} {S S' : Nat → Prop}
theorem Rows.length : ∀ {xs : List Value} {bss : List (List UInt8)}, Rows w S xs bss → xs.length = bss.length
  | [], [], _ => rfl
  | _ :: _, _ :: _, h => by simp [Rows.length h.2]
  | [], _ :: _, h => h.elim
  | _ :: _, [], h => h.elim
theorem Rows.keep (hS : ∀ b, S b → S' b) (hk : ∀ p : Addr, S p.block → w'.cell? p = w.cell? p) : ∀ {xs : List Value} {bss : List (List UInt8)}, Rows w S xs bss → Rows w' S' xs bss
  | [], [], _ => trivial
  | _ :: _, _ :: _, ⟨⟨a, cap, hv, hr⟩, h⟩ => ⟨⟨a, cap, hv, hr.keep hS hk⟩, Rows.keep hS hk h⟩
  | [], _ :: _, h => h.elim
  | _ :: _, [], h => h.elim
theorem Rows.append : ∀ {xs ys : List Value} {bss css : List (List UInt8)}, Rows w S xs bss → Rows w S ys css → Rows w S (xs ++ ys) (bss ++ css)
  | [], _, [], _, _, h => h
  | _ :: _, _, _ :: _, _, h, k => ⟨h.1, Rows.append h.2 k⟩
  | [], _, _ :: _, _, h, _ => h.elim
  | _ :: _, _, [], _, h, _ => h.elim
theorem Rows.take : ∀ {xs : List Value} {bss : List (List UInt8)} (k : Nat), Rows w S xs bss → Rows w S (xs.take k) (bss.take k)
  | _, _, 0, _ => by simp [Rows]
  | [], [], _ + 1, _ => trivial
  | _ :: _, _ :: _, k + 1, h => ⟨h.1, Rows.take k h.2⟩
  | [], _ :: _, _ + 1, h => h.elim
  | _ :: _, [], _ + 1, h => h.elim
theorem Rows.at : ∀ {xs : List Value} {bss : List (List UInt8)} (i : Nat) (hi : i < xs.length) (hj : i < bss.length), Rows w S xs bss → ∃ a cap, xs[i] = .slice a bss[i].length cap ∧ RdS w S a (cb bss[i])
  | _ :: _, _ :: _, 0, _, _, h => h.1
  | _ :: _, _ :: _, i + 1, hi, hj, h => Rows.at i (by simpa using hi) (by simpa using hj) h.2
theorem Rows.one {a : Option Addr} {cap : Nat} {b : List UInt8} (h : RdS w S a (cb b)) : Rows w S [.slice a b.length cap] [b] := ⟨⟨a, cap, rfl, h⟩, trivial⟩
theorem Rows.flat : ∀ {xs : List Value} {bss : List (List UInt8)}, Rows w S xs bss → ∀ v ∈ xs, v.oneCell' = true
  | [], [], _, _, hv => by cases hv
  | _ :: _, _ :: _, ⟨⟨a, cap, hv, _⟩, h⟩, v, hm => by
    rcases List.mem_cons.1 hm with rfl | hm
    · rw [hv]; rfl
    · exact Rows.flat h v hm
  | [], _ :: _, h, _, _ => h.elim
  | _ :: _, [], h, _, _ => h.elim
end

/-- What may hold an element of the row 'o': a block of the call's own that is not the row's. -/
def Beside (base : Nat) (w : World) (o : Value) (b : Nat) : Prop := base ≤ b ∧ b < w.heap.size ∧ some b ≠ o.ownBlock

/-- Behind an append the elements read as before, and lie beside the new row. -/
theorem Rows.grown {base : Nat} {w w1 w2 : World} {o o' : Value} {xs : List Value} {bss : List (List UInt8)} (h : Rows w (Beside base w o) xs bss) (hb : Below w.heap.size w w1) (hg : w1.grownBy w2 o.ownBlock)
    (hat : o'.ownBlock = o.ownBlock ∨ o'.ownBlock = some w1.heap.size) : Rows w2 (Beside base w2 o') xs bss := by
  refine h.keep ?_ ?_
  · rintro b ⟨h0, h1, h2⟩
    refine ⟨h0, Nat.lt_of_lt_of_le h1 (Nat.le_trans hb.size hg.size), ?_⟩
    rcases hat with e | e
    · rw [e]; exact h2
    · rw [e]; have := hb.size; simp only [ne_eq, Option.some.injEq]; omega
  · rintro p ⟨_, h1, h2⟩
    rw [World.cell?_of_block (hg.block p.block (Nat.lt_of_lt_of_le h1 hb.size) h2)]
    exact hb.cell h1
/-- What was made behind 'wr', ahead of the append, lies beside the new row. -/
theorem RdS.fresh {base B : Nat} {w1 w2 w3 : World} {o o' : Value} {a : Option Addr} {xs : List Value} (h : RdS w1 (fun b => B ≤ b ∧ b < w1.heap.size) a xs) (hB : base ≤ B) (hb : Below w1.heap.size w1 w2) (hown : ∀ j, o.ownBlock = some j → j < B) (hg : w2.grownBy w3 o.ownBlock)
    (hat : o'.ownBlock = o.ownBlock ∨ o'.ownBlock = some w2.heap.size) : RdS w3 (Beside base w3 o') a xs := by
  have hne : ∀ b, B ≤ b → some b ≠ o.ownBlock := fun b h1 e => by have := hown b e.symm; omega
  refine h.keep ?_ ?_
  · rintro b ⟨h1, h2⟩
    refine ⟨Nat.le_trans hB h1, Nat.lt_of_lt_of_le h2 (Nat.le_trans hb.size hg.size), ?_⟩
    rcases hat with e | e
    · rw [e]; exact hne b h1
    · rw [e]; have := hb.size; simp only [ne_eq, Option.some.injEq]; omega
  · rintro p ⟨h1, h2⟩
    rw [World.cell?_of_block (hg.block p.block (Nat.lt_of_lt_of_le h2 hb.size) (hne _ h1))]
    exact hb.cell h2
end Go.Proofs.YtckapnaiehkieaaDoor
