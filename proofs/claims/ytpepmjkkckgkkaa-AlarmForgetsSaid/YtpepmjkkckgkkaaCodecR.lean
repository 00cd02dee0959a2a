/-
  codec's reader, by contract: New, peekNumber, Number, Int, Text, Left; what they answer as plain functions of the bytes that are left.
-/
import Derived.Test.YtpepmjkkckgkkaaCodecA
namespace Go.Proofs.Ytpepmjkkckgkkaa
open Go.RowKit

/-- What a number that comes next is, its code, and how many bytes it takes. -/
def numV (bs : List UInt8) : Int := if bs.length < 4 then 0 else if 1000000000 < le (bs.take 4) then 0 else (le (bs.take 4) : Int)
def numE (bs : List UInt8) : Int := if bs.length < 4 then 10 else if 1000000000 < le (bs.take 4) then 11 else 0
def numK (bs : List UInt8) : Nat := if bs.length < 4 then 0 else if 1000000000 < le (bs.take 4) then 0 else 4
def intV (bs : List UInt8) : Int := if bs.length < 8 then 0 else wrap64 (le (bs.take 8) : Int)
def intE (bs : List UInt8) : Int := if bs.length < 8 then 10 else 0
def intK (bs : List UInt8) : Nat := if bs.length < 8 then 0 else 8
def txtE (bs : List UInt8) : Int := if bs.length < 4 then 10 else if 65536 < le (bs.take 4) then 11 else if bs.length < 4 + le (bs.take 4) then 10 else 0
def txtK (bs : List UInt8) : Nat := if bs.length < 4 then 0 else if 65536 < le (bs.take 4) then 0 else if bs.length < 4 + le (bs.take 4) then 0 else 4 + le (bs.take 4)
def txtV (bs : List UInt8) : List UInt8 := if bs.length < 4 then [] else if 65536 < le (bs.take 4) then [] else if bs.length < 4 + le (bs.take 4) then [] else (bs.drop 4).take (le (bs.take 4))

theorem num_short {bs : List UInt8} (h : bs.length < 4) : numV bs = 0 ∧ numE bs = 10 ∧ numK bs = 0 := by simp [numV, numE, numK, h]
theorem num_form {bs : List UInt8} (h : ¬ bs.length < 4) (hm : 1000000000 < le (bs.take 4)) : numV bs = 0 ∧ numE bs = 11 ∧ numK bs = 0 := by simp [numV, numE, numK, h, hm]
theorem num_ok {bs : List UInt8} (h : ¬ bs.length < 4) (hm : ¬ 1000000000 < le (bs.take 4)) : numV bs = le (bs.take 4) ∧ numE bs = 0 ∧ numK bs = 4 := by simp [numV, numE, numK, h, hm]
theorem int_short {bs : List UInt8} (h : bs.length < 8) : intV bs = 0 ∧ intE bs = 10 ∧ intK bs = 0 := by simp [intV, intE, intK, h]
theorem int_ok {bs : List UInt8} (h : ¬ bs.length < 8) : intV bs = wrap64 (le (bs.take 8)) ∧ intE bs = 0 ∧ intK bs = 8 := by simp [intV, intE, intK, h]
theorem txt_short {bs : List UInt8} (h : bs.length < 4) : txtV bs = [] ∧ txtE bs = 10 ∧ txtK bs = 0 := by simp [txtV, txtE, txtK, h]
theorem txt_form {bs : List UInt8} (h : ¬ bs.length < 4) (hm : 65536 < le (bs.take 4)) : txtV bs = [] ∧ txtE bs = 11 ∧ txtK bs = 0 := by simp [txtV, txtE, txtK, h, hm]
theorem txt_end {bs : List UInt8} (h : ¬ bs.length < 4) (hm : ¬ 65536 < le (bs.take 4)) (hs : bs.length < 4 + le (bs.take 4)) : txtV bs = [] ∧ txtE bs = 10 ∧ txtK bs = 0 := by simp [txtV, txtE, txtK, h, hm, hs]
theorem txt_ok {bs : List UInt8} (h : ¬ bs.length < 4) (hm : ¬ 65536 < le (bs.take 4)) (hs : ¬ bs.length < 4 + le (bs.take 4)) : txtV bs = (bs.drop 4).take (le (bs.take 4)) ∧ txtE bs = 0 ∧ txtK bs = 4 + le (bs.take 4) := by simp [txtV, txtE, txtK, h, hm, hs]

section
variable {w w' : World} {r B : Nat} {bs : List UInt8}
end

end Go.Proofs.Ytpepmjkkckgkkaa
