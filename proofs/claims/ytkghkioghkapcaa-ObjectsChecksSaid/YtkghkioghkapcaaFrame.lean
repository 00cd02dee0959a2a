/-
  From a law's walk to its statement: what is shared by all laws: how a slice of bytes or of ints that came in reads.
-/
import Derived.Test.YtkghkioghkapcaaRows
import Derived.Test.YtkghkioghkapcaaMem
import Derived.ProofKit
import Derived.OpenShut
import Derived.ShutString
import Derived.ChangeOld
import Derived.Below
namespace Go.Proofs.Ytkghkioghkapcaa
open Go.ChangeShapes Go.WideShapes Go.ChangeAt Go.RowKit
open Go.ChangeMaps (open_string shut_string)

theorem frame_own : ownKnob Try.prog.godebug = none := by kernel_rfl
theorem frame_laid : laidOutB Try.prog = true := by kernel_rfl

/-- Ints as cells. -/
def ci (zs : List Int) : List Value := zs.map fun z => .int .i64 z
@[simp] theorem length_ci (zs : List Int) : (ci zs).length = zs.length := by simp [ci]

/-- A slice that came in: its cells, as a list of which the first 'len' are its elements. -/
theorem rd_of_cells {w : World} {x : Addr} {xs : List Value} {len : Nat} (hl : len ≤ xs.length) (hc : ∀ i, i < xs.length → w.cell? (x.add i) = xs[i]?) : Rd w w.heap.size (some x) (xs.take len) := by
  by_cases h0 : len = 0
  · subst h0; exact .inl rfl
  · obtain ⟨b, o, s⟩ := x
    have h1 := hc 0 (by omega)
    rw [List.getElem?_eq_getElem (by omega)] at h1
    have hs : s = none := by simpa [Addr.add] using World.cell?_spot h1
    subst hs
    refine .inr ⟨b, o, rfl, ?_, fun i hi => ?_⟩
    · have := World.block_lt_of_cell? w _ h1
      simpa [Addr.add] using this
    · have hi' : i < xs.length := by simp at hi; omega
      have h2 := hc i hi'
      rw [List.getElem?_eq_getElem hi'] at h2
      rw [List.getElem_take]
      unfold Addr.add at h2
      split at h2
      · rename_i hz; subst hz; simpa using h2
      · exact h2

set_option maxRecDepth 100000 in
theorem open_row {H : Type} {enc : TypeId × Value → H} {W : World} {spare : Nat → Bool} {held : Bool} {t e : TypeId} {k : IntKind} {a : Option Addr} {len cap : Nat} {d : DataW H} {p : List MemPlace}
    (ht : Try.prog.underlying t = some (.slice e)) (he : Try.prog.underlying e = some (.int k)) (hC : Try.prog.cellsOf e = 1)
    (h : DataW.Trod enc Try.prog W 0 spare held t (.slice a len cap) d p) :
    ∃ zs : List Int, zs.length = len ∧ Rd W W.heap.size a (zs.map (Value.int k)) ∧ (∀ n ∈ zs, (Lit.int k n).wf = true) ∧ len ≤ cap ∧ cap ≤ maxLen := by
  obtain ⟨fuel, hf⟩ := h
  rcases open_ints ht he hC hf with ⟨hcs, _⟩ | ⟨x, l, c, zs, hcs, _, hl, hm, hz, _, hcell, hwz⟩
  · simp [Value.cells] at hcs
    obtain ⟨rfl, rfl, rfl⟩ := hcs
    exact ⟨[], rfl, Rd.nil, by simp, Nat.le_refl _, Nat.zero_le _⟩
  · simp [Value.cells] at hcs
    obtain ⟨rfl, rfl, rfl⟩ := hcs
    have hle : len ≤ zs.length := by rw [hz]; split <;> omega
    refine ⟨zs.take len, by simp; omega, ?_, fun n hn => hwz n (List.mem_of_mem_take hn), hl, hm⟩
    rw [List.map_take]
    refine rd_of_cells (by simpa using hle) (fun i hi => ?_)
    simp at hi
    rw [hcell i hi, List.getElem?_map, List.getElem?_eq_getElem hi, List.getD_eq_getElem?_getD, List.getElem?_eq_getElem hi]
    rfl

set_option maxRecDepth 100000 in
theorem open_bytes {H : Type} {enc : TypeId × Value → H} {W : World} {spare : Nat → Bool} {held : Bool} {t e : TypeId} {a : Option Addr} {len cap : Nat} {d : DataW H} {p : List MemPlace}
    (ht : Try.prog.underlying t = some (.slice e)) (he : Try.prog.underlying e = some (.int .u8)) (hC : Try.prog.cellsOf e = 1)
    (h : DataW.Trod enc Try.prog W 0 spare held t (.slice a len cap) d p) :
    ∃ bs : List UInt8, bs.length = len ∧ Rd W W.heap.size a (cb bs) ∧ len ≤ cap ∧ cap ≤ maxLen := by
  obtain ⟨zs, hl, hr, hw, hc, hm⟩ := open_row ht he hC h
  refine ⟨zs.map fun z => UInt8.ofNat z.toNat, by simpa using hl, ?_, hc, hm⟩
  have e1 : cb (zs.map fun z => UInt8.ofNat z.toNat) = zs.map (Value.int .u8) := by
    unfold cb
    rw [List.map_map]
    apply List.map_congr_left
    intro z hz
    have hb := bounds_u8 (hw z hz)
    have h2 : (UInt8.ofNat z.toNat).toNat = z.toNat := by
      simp only [UInt8.toNat_ofNat']
      omega
    simp only [Function.comp_apply, h2]
    congr 1
    omega
  rw [e1]
  exact hr

set_option maxRecDepth 100000 in
theorem open_nums {H : Type} {enc : TypeId × Value → H} {W : World} {spare : Nat → Bool} {held : Bool} {t e : TypeId} {a : Option Addr} {len cap : Nat} {d : DataW H} {p : List MemPlace}
    (ht : Try.prog.underlying t = some (.slice e)) (he : Try.prog.underlying e = some (.int .i64)) (hC : Try.prog.cellsOf e = 1)
    (h : DataW.Trod enc Try.prog W 0 spare held t (.slice a len cap) d p) :
    ∃ zs : List Int, zs.length = len ∧ Rd W W.heap.size a (ci zs) ∧ (∀ n ∈ zs, (Lit.int .i64 n).wf = true) ∧ len ≤ cap ∧ cap ≤ maxLen :=
  open_row ht he hC h
end Go.Proofs.Ytkghkioghkapcaa
