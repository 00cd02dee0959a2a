/-
  The statements on the bytes of catalogs and machines: what is shared (made by wip/gen_wire.py)
-/
import Derived.Test.YtbhpbiimfcdgaaaGreatWireH
import Derived.Test.YtbhpbiimfcdgaaaGreatKeep
namespace Go.Proofs.YtbhpbiimfcdgaaaGreat
open Go.RowKit
set_option linter.unusedVariables false

theorem wt_bytes : ∀ ts : List Tok, wtL ts ≤ 4 * (bytesL ts).length
  | [] => by simp [wtL]
  | t :: r => by
    have h := wt_bytes r
    have h2 : t.wt ≤ 4 * t.bytes.length := by
      cases t with
      | num n => simp [Tok.wt, Tok.bytes]
      | whole n => simp [Tok.wt, Tok.bytes, wb]
      | text s =>
        simp only [Tok.wt, Tok.bytes, List.length_append, length_lowB]
        split <;> omega
      | flag b => simp [Tok.wt, Tok.bytes, fb]
      | many n => simp [Tok.wt, Tok.bytes]
    simp only [wtL, bytesL, List.length_append]
    omega
theorem room_bytes {ts : List Tok} (h : (bytesL ts).length ≤ 262144) : Room [] ts := by
  have := wt_bytes ts
  unfold Room
  simp only [List.length_nil]
  omega
theorem room_small {ts : List Tok} (h : wtL ts ≤ 70368744177664) : Room [] ts := by
  unfold Room; simp only [List.length_nil]; omega
theorem lent_at3 {w w2 : World} {bs : List UInt8} (hb : Below (w.heap.size + 1) (w.alloc (.cells (cb (bs ++ [165, 90])).toArray 5)) w2) : w2.heap[w.heap.size]? = some (.cells (cb (bs ++ [165, 90])).toArray 5 (0, 0)) :=
  (hb.block _ (by omega)).trans (heap_alloc_new w _)
end Go.Proofs.YtbhpbiimfcdgaaaGreat
