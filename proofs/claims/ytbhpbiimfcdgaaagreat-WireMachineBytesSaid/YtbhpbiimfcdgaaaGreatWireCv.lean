/-
  The document's Get of machines, by contract (made by wip/gen_wire.py)
-/
import Derived.Test.YtbhpbiimfcdgaaaGreatWireCz
import Derived.Test.YtbhpbiimfcdgaaaGreatWireCg
namespace Go.Proofs.YtbhpbiimfcdgaaaGreat
open Go.RowKit
set_option linter.unusedVariables false

set_option maxRecDepth 100000 in
set_option maxHeartbeats 2000000 in
theorem RefGet_Machine (a : Option Addr) (len cap : Nat) (bs : List UInt8) (w : World) (hl : bs.length = len) (hrd : Rd w w.heap.size a (cb bs)) (hlc : len ≤ cap) (hcm : cap ≤ maxLen) :
    Calls Tryz.prog 12 #[.slice a len cap] w (RGetPost w #[.int .i64 0, .int .i64 0, .slice none 0 0, .slice none 0 0, .slice none 0 0, .slice none 0 0, .slice none 0 0, .slice none 0 0, .slice none 0 0, .int .i64 0] shMachine bs) := by
  have hi : (Tryz.prog.info? 46).map (·.size) = some 10 := by kernel_rfl
  have HI := Lib.hid hi; clear hi
  have HL := Lib.hid hl; clear hl
  have h1z : (#[.int .i64 0, .int .i64 0, .slice none 0 0, .slice none 0 0, .slice none 0 0, .slice none 0 0, .slice none 0 0, .slice none 0 0, .slice none 0 0, .int .i64 0] : Array Value).all (·.oneCell') = true := by kernel_rfl
  have H1Z := Lib.hid h1z; clear h1z
  have hb0 : Below w.heap.size w (w.alloc (.cells #[.int .i64 0, .int .i64 0, .slice none 0 0, .slice none 0 0, .slice none 0 0, .slice none 0 0, .slice none 0 0, .slice none 0 0, .slice none 0 0, .int .i64 0] 46)) := (Below.refl _ _).alloc (Nat.le_refl _) _
  have hz0 : w.heap.size < (w.alloc (.cells #[.int .i64 0, .int .i64 0, .slice none 0 0, .slice none 0 0, .slice none 0 0, .slice none 0 0, .slice none 0 0, .slice none 0 0, .slice none 0 0, .int .i64 0] 46)).heap.size := by simp
  have D0 := Lib.hid (heap_alloc_new w (.cells #[.int .i64 0, .int .i64 0, .slice none 0 0, .slice none 0 0, .slice none 0 0, .slice none 0 0, .slice none 0 0, .slice none 0 0, .slice none 0 0, .int .i64 0] 46))
  have hrd0 : Rd (w.alloc (.cells #[.int .i64 0, .int .i64 0, .slice none 0 0, .slice none 0 0, .slice none 0 0, .slice none 0 0, .slice none 0 0, .slice none 0 0, .slice none 0 0, .int .i64 0] 46)) (w.alloc (.cells #[.int .i64 0, .int .i64 0, .slice none 0 0, .slice none 0 0, .slice none 0 0, .slice none 0 0, .slice none 0 0, .slice none 0 0, .slice none 0 0, .int .i64 0] 46)).heap.size a (cb bs) := (hrd.below hb0 (Nat.le_refl _)).more (by simp)
  go_enter Tryz.func12, Tryz.ntmps12
  go_wp2_with fail
  refine (c_new a len cap bs _ HL.out hrd0 hlc hcm).mono ?_
  generalize hw0 : w.alloc (.cells #[.int .i64 0, .int .i64 0, .slice none 0 0, .slice none 0 0, .slice none 0 0, .slice none 0 0, .slice none 0 0, .slice none 0 0, .slice none 0 0, .int .i64 0] 46) = w0 at *
  have HW0 := Lib.hid hw0; clear hw0
  rintro e w1 ⟨rfl, C1, hb1, hz1⟩
  have D1 := Lib.hid ((hb1.block _ hz0).trans D0.out)
  go_wp2_with fail
  refine (c_machine _ _ _ bs 0 false w1 C1).mono ?_
  rintro e w2 ⟨K2, j, bad, cs, rfl, J, C2, S⟩
  have D2 := K2.row D1.out ⟨by omega, by omega⟩
  have B2 : Below w.heap.size w w2 := (hb0.trans (hb1.mono hb0.size)).trans (K2.below (by have := hb0.size; have := hb1.size; omega) fun k hk => ⟨by omega, by omega⟩)
  have hz2 : w.heap.size < w2.heap.size := lt_of_block D2
  have D3 := Lib.hid ((Below.heap_alloc w2 (.cells cs.toArray 46) _ hz2).trans D2)
  have D2' := Lib.hid D2; clear D2
  have C3 := C2.alloc (.cells cs.toArray 46)
  have B3 : Below w.heap.size w (w2.alloc (.cells cs.toArray 46)) := B2.alloc B2.size _
  have hsz : cs.length = 10 := J.size
  have HS2 : Hid ((#[.int .i64 0, .int .i64 0, .slice none 0 0, .slice none 0 0, .slice none 0 0, .slice none 0 0, .slice none 0 0, .slice none 0 0, .slice none 0 0, .int .i64 0] : Array Value).size = cs.toArray.size) := Lib.hid (show (10 : Nat) = cs.toArray.size by rw [List.size_toArray, hsz])
  have HI2 : Hid ((Tryz.prog.info? 46).map (·.size) = some cs.toArray.size) := Lib.hid (by rw [HI.out, List.size_toArray, hsz])
  have h1 := Lib.hid (all_oneCell_toArray J.one)
  have rng := Lib.hid (box_range (heap_alloc_new w2 (.cells cs.toArray 46)))
  have HI3 : Hid ((Tryz.prog.info? 46).map (·.size) = some cs.length) := Lib.hid (by rw [HI.out, hsz])
  have W := Lib.hid (whole_of C2 S)
  clear hsz S
  simp only [agg]
  have X2 := Lib.hid B2; clear B2
  go_wp2_with (refine wpList_store_last w2 rfl 46 _ _ rfl 46 #[.int .i64 0, .int .i64 0, .slice none 0 0, .slice none 0 0, .slice none 0 0, .slice none 0 0, .slice none 0 0, .slice none 0 0, .slice none 0 0, .int .i64 0] cs.toArray w2.heap.size rfl rfl rfl HI2.out HS2.out h1.out ?_)
  rcases W.out with ⟨rfl, hj, hp⟩ | ⟨hbad, hp⟩
  · refine (whole_done _ _ _ j bs _ C3 hj).mono ?_
    rintro e w4 ⟨rfl, d, rfl⟩
    have D4 : Hid ((((w2.alloc (.cells cs.toArray 46)).drewN d).heap[w.heap.size]?) = some (.cells #[.int .i64 0, .int .i64 0, .slice none 0 0, .slice none 0 0, .slice none 0 0, .slice none 0 0, .slice none 0 0, .slice none 0 0, .slice none 0 0, .int .i64 0] 46 (0, 0))) := Lib.hid D3.out
    have rng4 : Hid (((w2.alloc (.cells cs.toArray 46)).drewN d).rangeAt w2.heap.size 0 cs) := Lib.hid rng.out
    have HROW := Lib.hid (setRow_heap _ w.heap.size _ cs.toArray _ _ D4.out)
    have P := Lib.hid hp; clear hp hj
    go_wp2_with (first
      | (refine wpList_load_mid rfl 46 _ rfl w2.heap.size 0 rfl _ _ rng4.out Tryz.underlying46 rfl HI3.out ?_)
      | (refine wpList_store_row rfl 46 _ _ rfl w.heap.size 46 _ cs.toArray rfl rfl D4.out HI2.out HS2.out h1.out ?_))
    refine bodyPost_ret (results_row_tmp rfl _ _ w.heap.size _ _ (0, 0) _ rfl HROW.out Tryz.underlying46 rfl HI2.out) rfl ?_
    exact ⟨below_setRow (below_drewN B3 d) _, .inl ⟨P.out, cs, J, rfl⟩⟩
  · have hwh : Calls Tryz.prog 18 #[.pointer (some ⟨w0.heap.size + 1, 0, none⟩)] (w2.alloc (.cells cs.toArray 46)) fun e w' => e = .returned (.bool false) ∧ ∃ n, w' = (w2.alloc (.cells cs.toArray 46)).drewN n := by
      cases bad with
      | true => exact whole_bad _ _ _ j bs _ C3
      | false => exact whole_more _ _ _ j bs _ C3 (by rcases hbad with h | h; cases h; exact h)
    refine hwh.mono ?_
    rintro e w4 ⟨rfl, d, rfl⟩
    have D4 : Hid ((((w2.alloc (.cells cs.toArray 46)).drewN d).heap[w.heap.size]?) = some (.cells #[.int .i64 0, .int .i64 0, .slice none 0 0, .slice none 0 0, .slice none 0 0, .slice none 0 0, .slice none 0 0, .slice none 0 0, .slice none 0 0, .int .i64 0] 46 (0, 0))) := Lib.hid D3.out
    have HROW := Lib.hid (setRow_heap _ w.heap.size _ #[.int .i64 0, .int .i64 0, .slice none 0 0, .slice none 0 0, .slice none 0 0, .slice none 0 0, .slice none 0 0, .slice none 0 0, .slice none 0 0, .int .i64 0] _ _ D4.out)
    have P := Lib.hid hp; clear hp hbad hwh
    go_wp2_with (refine wpList_store_row rfl 46 _ _ rfl w.heap.size 46 _ #[.int .i64 0, .int .i64 0, .slice none 0 0, .slice none 0 0, .slice none 0 0, .slice none 0 0, .slice none 0 0, .slice none 0 0, .slice none 0 0, .int .i64 0] rfl rfl D4.out HI.out rfl H1Z.out ?_)
    refine bodyPost_ret (results_row_tmp rfl _ _ w.heap.size _ _ (0, 0) _ rfl HROW.out Tryz.underlying46 rfl HI.out) rfl ?_
    exact ⟨below_setRow (below_drewN B3 d) _, .inr ⟨P.out, rfl⟩⟩

end Go.Proofs.YtbhpbiimfcdgaaaGreat
