/-
  The chapter's examples, which the statements of layer 1 ask first: by contract.
-/
import Derived.Test.YtckapnaiehkieaaDoorCodecB
import Derived.Test.YtckapnaiehkieaaDoorCodecR
import Derived.Test.YtckapnaiehkieaaDoorRef01
namespace Go.Proofs.YtckapnaiehkieaaDoor
open Go.RowKit

/-- The bytes of a number, the lowest first. -/
def lowB (v : Int) (k : Nat) : List UInt8 := (List.range k).map fun i => UInt8.ofNat (v / 2 ^ (8 * i) % 256).toNat
@[simp] theorem length_lowB (v : Int) (k : Nat) : (lowB v k).length = k := by simp [lowB]
theorem low_lowB (v : Int) (k : Nat) : low v k = cb (lowB v k) := by
  unfold low lowB cb
  rw [List.map_map]
  apply List.map_congr_left
  intro i _
  have h : (UInt8.ofNat (v / 2 ^ (8 * i) % 256).toNat).toNat = (v / 2 ^ (8 * i) % 256).toNat := by
    simp only [UInt8.toNat_ofNat']
    omega
  simp only [Function.comp_apply, h]
  congr 1
  omega

/-- A new block that holds bytes reads as them. -/
theorem Rd.new (w : World) (bs : List UInt8) (t : TypeId) : Rd (w.alloc (.cells (cb bs).toArray t)) (w.heap.size + 1) (some ⟨w.heap.size, 0, none⟩) (cb bs) := by
  have h := Rd.row (off := 0) (n := (cb bs).length) (heap_alloc_new w (.cells (cb bs).toArray t)) (Nat.lt_succ_self _) (by omega)
  rw [List.drop_zero, List.take_length] at h
  exact h

/-- 'string(b)' over a new block. -/
theorem str_new (w : World) (bs : List UInt8) (n c : Nat) (hn : bs.length = n) :
    (convert 22 9 (.slice (some ⟨w.heap.size, 0, none⟩) n c)).run Tryd.prog (w.alloc (.cells (cb bs).toArray 5)) = .ok (.string ⟨bs.toArray⟩) (w.alloc (.cells (cb bs).toArray 5)) :=
  run_string_of (Rd.new w bs _) _ _ 5 n c hn Tryd.underlying22 Tryd.underlying5 Tryd.underlying9

theorem below_row {B r : Nat} {w w1 w2 : World} (h : Below B w w1) (hg : w1.grownBy w2 (some r)) (hr : B ≤ r) (hB : B ≤ w.heap.size) : Below B w w2 :=
  h.grown hg (by have := h.size; omega) (fun k hk => by simp only [Option.some.injEq] at hk; omega)

end Go.Proofs.YtckapnaiehkieaaDoor
