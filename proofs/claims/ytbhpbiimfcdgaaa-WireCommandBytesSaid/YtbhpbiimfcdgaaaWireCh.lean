/-
  The document's Get of records, commands, operations, by contract (made by wip/gen_wire.py)
-/
import Derived.Test.YtbhpbiimfcdgaaaWireCg
import Derived.Test.YtbhpbiimfcdgaaaWireCe
namespace Go.Proofs.Ytbhpbiimfcdgaaa
open Go.RowKit
set_option linter.unusedVariables false

set_option maxRecDepth 100000 in
set_option maxHeartbeats 2000000 in
theorem RefGet_Record (a : Option Addr) (len cap : Nat) (bs : List UInt8) (w : World) (hl : bs.length = len) (hrd : Rd w w.heap.size a (cb bs)) (hlc : len ≤ cap) (hcm : cap ≤ maxLen) :
    Calls Try.prog 25 #[.slice a len cap] w (RGetPost w #[.int .i64 0, .int .i64 0, .int .i64 0, .int .i64 0, .int .i64 0, .int .i64 0, .slice none 0 0, .slice none 0 0, .string ByteArray.empty, .int .i64 0, .int .i64 0, .int .i64 0, .slice none 0 0, .slice none 0 0, .string ByteArray.empty] shRecord bs) := by
  have hi : (Try.prog.info? 65).map (·.size) = some 15 := by kernel_rfl
  have HI := Lib.hid hi; clear hi
  have HL := Lib.hid hl; clear hl
  have h1z : (#[.int .i64 0, .int .i64 0, .int .i64 0, .int .i64 0, .int .i64 0, .int .i64 0, .slice none 0 0, .slice none 0 0, .string ByteArray.empty, .int .i64 0, .int .i64 0, .int .i64 0, .slice none 0 0, .slice none 0 0, .string ByteArray.empty] : Array Value).all (·.oneCell') = true := by kernel_rfl
  have H1Z := Lib.hid h1z; clear h1z
  have hb0 : Below w.heap.size w (w.alloc (.cells #[.int .i64 0, .int .i64 0, .int .i64 0, .int .i64 0, .int .i64 0, .int .i64 0, .slice none 0 0, .slice none 0 0, .string ByteArray.empty, .int .i64 0, .int .i64 0, .int .i64 0, .slice none 0 0, .slice none 0 0, .string ByteArray.empty] 65)) := (Below.refl _ _).alloc (Nat.le_refl _) _
  have hz0 : w.heap.size < (w.alloc (.cells #[.int .i64 0, .int .i64 0, .int .i64 0, .int .i64 0, .int .i64 0, .int .i64 0, .slice none 0 0, .slice none 0 0, .string ByteArray.empty, .int .i64 0, .int .i64 0, .int .i64 0, .slice none 0 0, .slice none 0 0, .string ByteArray.empty] 65)).heap.size := by simp
  have D0 := Lib.hid (heap_alloc_new w (.cells #[.int .i64 0, .int .i64 0, .int .i64 0, .int .i64 0, .int .i64 0, .int .i64 0, .slice none 0 0, .slice none 0 0, .string ByteArray.empty, .int .i64 0, .int .i64 0, .int .i64 0, .slice none 0 0, .slice none 0 0, .string ByteArray.empty] 65))
  have hrd0 : Rd (w.alloc (.cells #[.int .i64 0, .int .i64 0, .int .i64 0, .int .i64 0, .int .i64 0, .int .i64 0, .slice none 0 0, .slice none 0 0, .string ByteArray.empty, .int .i64 0, .int .i64 0, .int .i64 0, .slice none 0 0, .slice none 0 0, .string ByteArray.empty] 65)) (w.alloc (.cells #[.int .i64 0, .int .i64 0, .int .i64 0, .int .i64 0, .int .i64 0, .int .i64 0, .slice none 0 0, .slice none 0 0, .string ByteArray.empty, .int .i64 0, .int .i64 0, .int .i64 0, .slice none 0 0, .slice none 0 0, .string ByteArray.empty] 65)).heap.size a (cb bs) := (hrd.below hb0 (Nat.le_refl _)).more (by simp)
  go_enter Try.func25, Try.ntmps25
  go_wp2_with fail
  refine (c_new a len cap bs _ HL.out hrd0 hlc hcm).mono ?_
  generalize hw0 : w.alloc (.cells #[.int .i64 0, .int .i64 0, .int .i64 0, .int .i64 0, .int .i64 0, .int .i64 0, .slice none 0 0, .slice none 0 0, .string ByteArray.empty, .int .i64 0, .int .i64 0, .int .i64 0, .slice none 0 0, .slice none 0 0, .string ByteArray.empty] 65) = w0 at *
  have HW0 := Lib.hid hw0; clear hw0
  rintro e w1 ⟨rfl, C1, hb1, hz1⟩
  have D1 := Lib.hid ((hb1.block _ hz0).trans D0.out)
  go_wp2_with fail
  refine (c_record _ _ _ bs 0 false w1 C1).mono ?_
  rintro e w2 ⟨K2, j, bad, cs, rfl, J, C2, S⟩
  have D2 := K2.row D1.out ⟨by omega, by omega⟩
  have B2 : Below w.heap.size w w2 := (hb0.trans (hb1.mono hb0.size)).trans (K2.below (by have := hb0.size; have := hb1.size; omega) fun k hk => ⟨by omega, by omega⟩)
  have hz2 : w.heap.size < w2.heap.size := lt_of_block D2
  have D3 := Lib.hid ((Below.heap_alloc w2 (.cells cs.toArray 65) _ hz2).trans D2)
  have D2' := Lib.hid D2; clear D2
  have C3 := C2.alloc (.cells cs.toArray 65)
  have B3 : Below w.heap.size w (w2.alloc (.cells cs.toArray 65)) := B2.alloc B2.size _
  have hsz : cs.length = 15 := J.size
  have HS2 : Hid ((#[.int .i64 0, .int .i64 0, .int .i64 0, .int .i64 0, .int .i64 0, .int .i64 0, .slice none 0 0, .slice none 0 0, .string ByteArray.empty, .int .i64 0, .int .i64 0, .int .i64 0, .slice none 0 0, .slice none 0 0, .string ByteArray.empty] : Array Value).size = cs.toArray.size) := Lib.hid (show (15 : Nat) = cs.toArray.size by rw [List.size_toArray, hsz])
  have HI2 : Hid ((Try.prog.info? 65).map (·.size) = some cs.toArray.size) := Lib.hid (by rw [HI.out, List.size_toArray, hsz])
  have h1 := Lib.hid (all_oneCell_toArray J.one)
  have rng := Lib.hid (box_range (heap_alloc_new w2 (.cells cs.toArray 65)))
  have HI3 : Hid ((Try.prog.info? 65).map (·.size) = some cs.length) := Lib.hid (by rw [HI.out, hsz])
  have W := Lib.hid (whole_of C2 S)
  clear hsz S
  simp only [agg]
  have X2 := Lib.hid B2; clear B2
  go_wp2_with (refine wpList_store_last w2 rfl 65 _ _ rfl 65 #[.int .i64 0, .int .i64 0, .int .i64 0, .int .i64 0, .int .i64 0, .int .i64 0, .slice none 0 0, .slice none 0 0, .string ByteArray.empty, .int .i64 0, .int .i64 0, .int .i64 0, .slice none 0 0, .slice none 0 0, .string ByteArray.empty] cs.toArray w2.heap.size rfl rfl rfl HI2.out HS2.out h1.out ?_)
  rcases W.out with ⟨rfl, hj, hp⟩ | ⟨hbad, hp⟩
  · refine (whole_done _ _ _ j bs _ C3 hj).mono ?_
    rintro e w4 ⟨rfl, d, rfl⟩
    have D4 : Hid ((((w2.alloc (.cells cs.toArray 65)).drewN d).heap[w.heap.size]?) = some (.cells #[.int .i64 0, .int .i64 0, .int .i64 0, .int .i64 0, .int .i64 0, .int .i64 0, .slice none 0 0, .slice none 0 0, .string ByteArray.empty, .int .i64 0, .int .i64 0, .int .i64 0, .slice none 0 0, .slice none 0 0, .string ByteArray.empty] 65 (0, 0))) := Lib.hid D3.out
    have rng4 : Hid (((w2.alloc (.cells cs.toArray 65)).drewN d).rangeAt w2.heap.size 0 cs) := Lib.hid rng.out
    have HROW := Lib.hid (setRow_heap _ w.heap.size _ cs.toArray _ _ D4.out)
    have P := Lib.hid hp; clear hp hj
    go_wp2_with (first
      | (refine wpList_load_mid rfl 65 _ rfl w2.heap.size 0 rfl _ _ rng4.out Try.underlying65 rfl HI3.out ?_)
      | (refine wpList_store_row rfl 65 _ _ rfl w.heap.size 65 _ cs.toArray rfl rfl D4.out HI2.out HS2.out h1.out ?_))
    refine bodyPost_ret (results_row_tmp rfl _ _ w.heap.size _ _ (0, 0) _ rfl HROW.out Try.underlying65 rfl HI2.out) rfl ?_
    exact ⟨below_setRow (below_drewN B3 d) _, .inl ⟨P.out, cs, J, rfl⟩⟩
  · have hwh : Calls Try.prog 42 #[.pointer (some ⟨w0.heap.size + 1, 0, none⟩)] (w2.alloc (.cells cs.toArray 65)) fun e w' => e = .returned (.bool false) ∧ ∃ n, w' = (w2.alloc (.cells cs.toArray 65)).drewN n := by
      cases bad with
      | true => exact whole_bad _ _ _ j bs _ C3
      | false => exact whole_more _ _ _ j bs _ C3 (by rcases hbad with h | h; cases h; exact h)
    refine hwh.mono ?_
    rintro e w4 ⟨rfl, d, rfl⟩
    have D4 : Hid ((((w2.alloc (.cells cs.toArray 65)).drewN d).heap[w.heap.size]?) = some (.cells #[.int .i64 0, .int .i64 0, .int .i64 0, .int .i64 0, .int .i64 0, .int .i64 0, .slice none 0 0, .slice none 0 0, .string ByteArray.empty, .int .i64 0, .int .i64 0, .int .i64 0, .slice none 0 0, .slice none 0 0, .string ByteArray.empty] 65 (0, 0))) := Lib.hid D3.out
    have HROW := Lib.hid (setRow_heap _ w.heap.size _ #[.int .i64 0, .int .i64 0, .int .i64 0, .int .i64 0, .int .i64 0, .int .i64 0, .slice none 0 0, .slice none 0 0, .string ByteArray.empty, .int .i64 0, .int .i64 0, .int .i64 0, .slice none 0 0, .slice none 0 0, .string ByteArray.empty] _ _ D4.out)
    have P := Lib.hid hp; clear hp hbad hwh
    go_wp2_with (refine wpList_store_row rfl 65 _ _ rfl w.heap.size 65 _ #[.int .i64 0, .int .i64 0, .int .i64 0, .int .i64 0, .int .i64 0, .int .i64 0, .slice none 0 0, .slice none 0 0, .string ByteArray.empty, .int .i64 0, .int .i64 0, .int .i64 0, .slice none 0 0, .slice none 0 0, .string ByteArray.empty] rfl rfl D4.out HI.out rfl H1Z.out ?_)
    refine bodyPost_ret (results_row_tmp rfl _ _ w.heap.size _ _ (0, 0) _ rfl HROW.out Try.underlying65 rfl HI.out) rfl ?_
    exact ⟨below_setRow (below_drewN B3 d) _, .inr ⟨P.out, rfl⟩⟩

set_option maxRecDepth 100000 in
set_option maxHeartbeats 2000000 in
theorem RefGet_Command (a : Option Addr) (len cap : Nat) (bs : List UInt8) (w : World) (hl : bs.length = len) (hrd : Rd w w.heap.size a (cb bs)) (hlc : len ≤ cap) (hcm : cap ≤ maxLen) :
    Calls Try.prog 19 #[.slice a len cap] w (RGetPost w #[.int .i64 0, .string ByteArray.empty, .string ByteArray.empty, .string ByteArray.empty, .string ByteArray.empty, .string ByteArray.empty, .slice none 0 0, .string ByteArray.empty, .int .i64 0, .slice none 0 0, .int .i64 0, .int .i64 0, .string ByteArray.empty, .string ByteArray.empty, .string ByteArray.empty, .int .i64 0, .bool false] shCommand bs) := by
  have hi : (Try.prog.info? 30).map (·.size) = some 17 := by kernel_rfl
  have HI := Lib.hid hi; clear hi
  have HL := Lib.hid hl; clear hl
  have h1z : (#[.int .i64 0, .string ByteArray.empty, .string ByteArray.empty, .string ByteArray.empty, .string ByteArray.empty, .string ByteArray.empty, .slice none 0 0, .string ByteArray.empty, .int .i64 0, .slice none 0 0, .int .i64 0, .int .i64 0, .string ByteArray.empty, .string ByteArray.empty, .string ByteArray.empty, .int .i64 0, .bool false] : Array Value).all (·.oneCell') = true := by kernel_rfl
  have H1Z := Lib.hid h1z; clear h1z
  have hb0 : Below w.heap.size w (w.alloc (.cells #[.int .i64 0, .string ByteArray.empty, .string ByteArray.empty, .string ByteArray.empty, .string ByteArray.empty, .string ByteArray.empty, .slice none 0 0, .string ByteArray.empty, .int .i64 0, .slice none 0 0, .int .i64 0, .int .i64 0, .string ByteArray.empty, .string ByteArray.empty, .string ByteArray.empty, .int .i64 0, .bool false] 30)) := (Below.refl _ _).alloc (Nat.le_refl _) _
  have hz0 : w.heap.size < (w.alloc (.cells #[.int .i64 0, .string ByteArray.empty, .string ByteArray.empty, .string ByteArray.empty, .string ByteArray.empty, .string ByteArray.empty, .slice none 0 0, .string ByteArray.empty, .int .i64 0, .slice none 0 0, .int .i64 0, .int .i64 0, .string ByteArray.empty, .string ByteArray.empty, .string ByteArray.empty, .int .i64 0, .bool false] 30)).heap.size := by simp
  have D0 := Lib.hid (heap_alloc_new w (.cells #[.int .i64 0, .string ByteArray.empty, .string ByteArray.empty, .string ByteArray.empty, .string ByteArray.empty, .string ByteArray.empty, .slice none 0 0, .string ByteArray.empty, .int .i64 0, .slice none 0 0, .int .i64 0, .int .i64 0, .string ByteArray.empty, .string ByteArray.empty, .string ByteArray.empty, .int .i64 0, .bool false] 30))
  have hrd0 : Rd (w.alloc (.cells #[.int .i64 0, .string ByteArray.empty, .string ByteArray.empty, .string ByteArray.empty, .string ByteArray.empty, .string ByteArray.empty, .slice none 0 0, .string ByteArray.empty, .int .i64 0, .slice none 0 0, .int .i64 0, .int .i64 0, .string ByteArray.empty, .string ByteArray.empty, .string ByteArray.empty, .int .i64 0, .bool false] 30)) (w.alloc (.cells #[.int .i64 0, .string ByteArray.empty, .string ByteArray.empty, .string ByteArray.empty, .string ByteArray.empty, .string ByteArray.empty, .slice none 0 0, .string ByteArray.empty, .int .i64 0, .slice none 0 0, .int .i64 0, .int .i64 0, .string ByteArray.empty, .string ByteArray.empty, .string ByteArray.empty, .int .i64 0, .bool false] 30)).heap.size a (cb bs) := (hrd.below hb0 (Nat.le_refl _)).more (by simp)
  go_enter Try.func19, Try.ntmps19
  go_wp2_with fail
  refine (c_new a len cap bs _ HL.out hrd0 hlc hcm).mono ?_
  generalize hw0 : w.alloc (.cells #[.int .i64 0, .string ByteArray.empty, .string ByteArray.empty, .string ByteArray.empty, .string ByteArray.empty, .string ByteArray.empty, .slice none 0 0, .string ByteArray.empty, .int .i64 0, .slice none 0 0, .int .i64 0, .int .i64 0, .string ByteArray.empty, .string ByteArray.empty, .string ByteArray.empty, .int .i64 0, .bool false] 30) = w0 at *
  have HW0 := Lib.hid hw0; clear hw0
  rintro e w1 ⟨rfl, C1, hb1, hz1⟩
  have D1 := Lib.hid ((hb1.block _ hz0).trans D0.out)
  go_wp2_with fail
  refine (c_command _ _ _ bs 0 false w1 C1).mono ?_
  rintro e w2 ⟨K2, j, bad, cs, rfl, J, C2, S⟩
  have D2 := K2.row D1.out ⟨by omega, by omega⟩
  have B2 : Below w.heap.size w w2 := (hb0.trans (hb1.mono hb0.size)).trans (K2.below (by have := hb0.size; have := hb1.size; omega) fun k hk => ⟨by omega, by omega⟩)
  have hz2 : w.heap.size < w2.heap.size := lt_of_block D2
  have D3 := Lib.hid ((Below.heap_alloc w2 (.cells cs.toArray 30) _ hz2).trans D2)
  have D2' := Lib.hid D2; clear D2
  have C3 := C2.alloc (.cells cs.toArray 30)
  have B3 : Below w.heap.size w (w2.alloc (.cells cs.toArray 30)) := B2.alloc B2.size _
  have hsz : cs.length = 17 := J.size
  have HS2 : Hid ((#[.int .i64 0, .string ByteArray.empty, .string ByteArray.empty, .string ByteArray.empty, .string ByteArray.empty, .string ByteArray.empty, .slice none 0 0, .string ByteArray.empty, .int .i64 0, .slice none 0 0, .int .i64 0, .int .i64 0, .string ByteArray.empty, .string ByteArray.empty, .string ByteArray.empty, .int .i64 0, .bool false] : Array Value).size = cs.toArray.size) := Lib.hid (show (17 : Nat) = cs.toArray.size by rw [List.size_toArray, hsz])
  have HI2 : Hid ((Try.prog.info? 30).map (·.size) = some cs.toArray.size) := Lib.hid (by rw [HI.out, List.size_toArray, hsz])
  have h1 := Lib.hid (all_oneCell_toArray J.one)
  have rng := Lib.hid (box_range (heap_alloc_new w2 (.cells cs.toArray 30)))
  have HI3 : Hid ((Try.prog.info? 30).map (·.size) = some cs.length) := Lib.hid (by rw [HI.out, hsz])
  have W := Lib.hid (whole_of C2 S)
  clear hsz S
  simp only [agg]
  have X2 := Lib.hid B2; clear B2
  go_wp2_with (refine wpList_store_last w2 rfl 30 _ _ rfl 30 #[.int .i64 0, .string ByteArray.empty, .string ByteArray.empty, .string ByteArray.empty, .string ByteArray.empty, .string ByteArray.empty, .slice none 0 0, .string ByteArray.empty, .int .i64 0, .slice none 0 0, .int .i64 0, .int .i64 0, .string ByteArray.empty, .string ByteArray.empty, .string ByteArray.empty, .int .i64 0, .bool false] cs.toArray w2.heap.size rfl rfl rfl HI2.out HS2.out h1.out ?_)
  rcases W.out with ⟨rfl, hj, hp⟩ | ⟨hbad, hp⟩
  · refine (whole_done _ _ _ j bs _ C3 hj).mono ?_
    rintro e w4 ⟨rfl, d, rfl⟩
    have D4 : Hid ((((w2.alloc (.cells cs.toArray 30)).drewN d).heap[w.heap.size]?) = some (.cells #[.int .i64 0, .string ByteArray.empty, .string ByteArray.empty, .string ByteArray.empty, .string ByteArray.empty, .string ByteArray.empty, .slice none 0 0, .string ByteArray.empty, .int .i64 0, .slice none 0 0, .int .i64 0, .int .i64 0, .string ByteArray.empty, .string ByteArray.empty, .string ByteArray.empty, .int .i64 0, .bool false] 30 (0, 0))) := Lib.hid D3.out
    have rng4 : Hid (((w2.alloc (.cells cs.toArray 30)).drewN d).rangeAt w2.heap.size 0 cs) := Lib.hid rng.out
    have HROW := Lib.hid (setRow_heap _ w.heap.size _ cs.toArray _ _ D4.out)
    have P := Lib.hid hp; clear hp hj
    go_wp2_with (first
      | (refine wpList_load_mid rfl 30 _ rfl w2.heap.size 0 rfl _ _ rng4.out Try.underlying30 rfl HI3.out ?_)
      | (refine wpList_store_row rfl 30 _ _ rfl w.heap.size 30 _ cs.toArray rfl rfl D4.out HI2.out HS2.out h1.out ?_))
    refine bodyPost_ret (results_row_tmp rfl _ _ w.heap.size _ _ (0, 0) _ rfl HROW.out Try.underlying30 rfl HI2.out) rfl ?_
    exact ⟨below_setRow (below_drewN B3 d) _, .inl ⟨P.out, cs, J, rfl⟩⟩
  · have hwh : Calls Try.prog 42 #[.pointer (some ⟨w0.heap.size + 1, 0, none⟩)] (w2.alloc (.cells cs.toArray 30)) fun e w' => e = .returned (.bool false) ∧ ∃ n, w' = (w2.alloc (.cells cs.toArray 30)).drewN n := by
      cases bad with
      | true => exact whole_bad _ _ _ j bs _ C3
      | false => exact whole_more _ _ _ j bs _ C3 (by rcases hbad with h | h; cases h; exact h)
    refine hwh.mono ?_
    rintro e w4 ⟨rfl, d, rfl⟩
    have D4 : Hid ((((w2.alloc (.cells cs.toArray 30)).drewN d).heap[w.heap.size]?) = some (.cells #[.int .i64 0, .string ByteArray.empty, .string ByteArray.empty, .string ByteArray.empty, .string ByteArray.empty, .string ByteArray.empty, .slice none 0 0, .string ByteArray.empty, .int .i64 0, .slice none 0 0, .int .i64 0, .int .i64 0, .string ByteArray.empty, .string ByteArray.empty, .string ByteArray.empty, .int .i64 0, .bool false] 30 (0, 0))) := Lib.hid D3.out
    have HROW := Lib.hid (setRow_heap _ w.heap.size _ #[.int .i64 0, .string ByteArray.empty, .string ByteArray.empty, .string ByteArray.empty, .string ByteArray.empty, .string ByteArray.empty, .slice none 0 0, .string ByteArray.empty, .int .i64 0, .slice none 0 0, .int .i64 0, .int .i64 0, .string ByteArray.empty, .string ByteArray.empty, .string ByteArray.empty, .int .i64 0, .bool false] _ _ D4.out)
    have P := Lib.hid hp; clear hp hbad hwh
    go_wp2_with (refine wpList_store_row rfl 30 _ _ rfl w.heap.size 30 _ #[.int .i64 0, .string ByteArray.empty, .string ByteArray.empty, .string ByteArray.empty, .string ByteArray.empty, .string ByteArray.empty, .slice none 0 0, .string ByteArray.empty, .int .i64 0, .slice none 0 0, .int .i64 0, .int .i64 0, .string ByteArray.empty, .string ByteArray.empty, .string ByteArray.empty, .int .i64 0, .bool false] rfl rfl D4.out HI.out rfl H1Z.out ?_)
    refine bodyPost_ret (results_row_tmp rfl _ _ w.heap.size _ _ (0, 0) _ rfl HROW.out Try.underlying30 rfl HI.out) rfl ?_
    exact ⟨below_setRow (below_drewN B3 d) _, .inr ⟨P.out, rfl⟩⟩

set_option maxRecDepth 100000 in
set_option maxHeartbeats 2000000 in
theorem RefGet_Op (a : Option Addr) (len cap : Nat) (bs : List UInt8) (w : World) (hl : bs.length = len) (hrd : Rd w w.heap.size a (cb bs)) (hlc : len ≤ cap) (hcm : cap ≤ maxLen) :
    Calls Try.prog 29 #[.slice a len cap] w (RGetPost w #[.int .i64 0, .int .i64 0, .int .i64 0, .int .i64 0, .string ByteArray.empty, .string ByteArray.empty, .string ByteArray.empty, .string ByteArray.empty, .string ByteArray.empty, .slice none 0 0, .string ByteArray.empty, .int .i64 0, .slice none 0 0, .int .i64 0, .int .i64 0, .string ByteArray.empty, .string ByteArray.empty, .string ByteArray.empty, .int .i64 0, .bool false, .int .i64 0, .int .i64 0, .int .i64 0] shOp bs) := by
  have hi : (Try.prog.info? 72).map (·.size) = some 23 := by kernel_rfl
  have HI := Lib.hid hi; clear hi
  have HL := Lib.hid hl; clear hl
  have h1z : (#[.int .i64 0, .int .i64 0, .int .i64 0, .int .i64 0, .string ByteArray.empty, .string ByteArray.empty, .string ByteArray.empty, .string ByteArray.empty, .string ByteArray.empty, .slice none 0 0, .string ByteArray.empty, .int .i64 0, .slice none 0 0, .int .i64 0, .int .i64 0, .string ByteArray.empty, .string ByteArray.empty, .string ByteArray.empty, .int .i64 0, .bool false, .int .i64 0, .int .i64 0, .int .i64 0] : Array Value).all (·.oneCell') = true := by kernel_rfl
  have H1Z := Lib.hid h1z; clear h1z
  have hb0 : Below w.heap.size w (w.alloc (.cells #[.int .i64 0, .int .i64 0, .int .i64 0, .int .i64 0, .string ByteArray.empty, .string ByteArray.empty, .string ByteArray.empty, .string ByteArray.empty, .string ByteArray.empty, .slice none 0 0, .string ByteArray.empty, .int .i64 0, .slice none 0 0, .int .i64 0, .int .i64 0, .string ByteArray.empty, .string ByteArray.empty, .string ByteArray.empty, .int .i64 0, .bool false, .int .i64 0, .int .i64 0, .int .i64 0] 72)) := (Below.refl _ _).alloc (Nat.le_refl _) _
  have hz0 : w.heap.size < (w.alloc (.cells #[.int .i64 0, .int .i64 0, .int .i64 0, .int .i64 0, .string ByteArray.empty, .string ByteArray.empty, .string ByteArray.empty, .string ByteArray.empty, .string ByteArray.empty, .slice none 0 0, .string ByteArray.empty, .int .i64 0, .slice none 0 0, .int .i64 0, .int .i64 0, .string ByteArray.empty, .string ByteArray.empty, .string ByteArray.empty, .int .i64 0, .bool false, .int .i64 0, .int .i64 0, .int .i64 0] 72)).heap.size := by simp
  have D0 := Lib.hid (heap_alloc_new w (.cells #[.int .i64 0, .int .i64 0, .int .i64 0, .int .i64 0, .string ByteArray.empty, .string ByteArray.empty, .string ByteArray.empty, .string ByteArray.empty, .string ByteArray.empty, .slice none 0 0, .string ByteArray.empty, .int .i64 0, .slice none 0 0, .int .i64 0, .int .i64 0, .string ByteArray.empty, .string ByteArray.empty, .string ByteArray.empty, .int .i64 0, .bool false, .int .i64 0, .int .i64 0, .int .i64 0] 72))
  have hrd0 : Rd (w.alloc (.cells #[.int .i64 0, .int .i64 0, .int .i64 0, .int .i64 0, .string ByteArray.empty, .string ByteArray.empty, .string ByteArray.empty, .string ByteArray.empty, .string ByteArray.empty, .slice none 0 0, .string ByteArray.empty, .int .i64 0, .slice none 0 0, .int .i64 0, .int .i64 0, .string ByteArray.empty, .string ByteArray.empty, .string ByteArray.empty, .int .i64 0, .bool false, .int .i64 0, .int .i64 0, .int .i64 0] 72)) (w.alloc (.cells #[.int .i64 0, .int .i64 0, .int .i64 0, .int .i64 0, .string ByteArray.empty, .string ByteArray.empty, .string ByteArray.empty, .string ByteArray.empty, .string ByteArray.empty, .slice none 0 0, .string ByteArray.empty, .int .i64 0, .slice none 0 0, .int .i64 0, .int .i64 0, .string ByteArray.empty, .string ByteArray.empty, .string ByteArray.empty, .int .i64 0, .bool false, .int .i64 0, .int .i64 0, .int .i64 0] 72)).heap.size a (cb bs) := (hrd.below hb0 (Nat.le_refl _)).more (by simp)
  go_enter Try.func29, Try.ntmps29
  go_wp2_with fail
  refine (c_new a len cap bs _ HL.out hrd0 hlc hcm).mono ?_
  generalize hw0 : w.alloc (.cells #[.int .i64 0, .int .i64 0, .int .i64 0, .int .i64 0, .string ByteArray.empty, .string ByteArray.empty, .string ByteArray.empty, .string ByteArray.empty, .string ByteArray.empty, .slice none 0 0, .string ByteArray.empty, .int .i64 0, .slice none 0 0, .int .i64 0, .int .i64 0, .string ByteArray.empty, .string ByteArray.empty, .string ByteArray.empty, .int .i64 0, .bool false, .int .i64 0, .int .i64 0, .int .i64 0] 72) = w0 at *
  have HW0 := Lib.hid hw0; clear hw0
  rintro e w1 ⟨rfl, C1, hb1, hz1⟩
  have D1 := Lib.hid ((hb1.block _ hz0).trans D0.out)
  go_wp2_with fail
  refine (c_op _ _ _ bs 0 false w1 C1).mono ?_
  rintro e w2 ⟨K2, j, bad, cs, rfl, J, C2, S⟩
  have D2 := K2.row D1.out ⟨by omega, by omega⟩
  have B2 : Below w.heap.size w w2 := (hb0.trans (hb1.mono hb0.size)).trans (K2.below (by have := hb0.size; have := hb1.size; omega) fun k hk => ⟨by omega, by omega⟩)
  have hz2 : w.heap.size < w2.heap.size := lt_of_block D2
  have D3 := Lib.hid ((Below.heap_alloc w2 (.cells cs.toArray 72) _ hz2).trans D2)
  have D2' := Lib.hid D2; clear D2
  have C3 := C2.alloc (.cells cs.toArray 72)
  have B3 : Below w.heap.size w (w2.alloc (.cells cs.toArray 72)) := B2.alloc B2.size _
  have hsz : cs.length = 23 := J.size
  have HS2 : Hid ((#[.int .i64 0, .int .i64 0, .int .i64 0, .int .i64 0, .string ByteArray.empty, .string ByteArray.empty, .string ByteArray.empty, .string ByteArray.empty, .string ByteArray.empty, .slice none 0 0, .string ByteArray.empty, .int .i64 0, .slice none 0 0, .int .i64 0, .int .i64 0, .string ByteArray.empty, .string ByteArray.empty, .string ByteArray.empty, .int .i64 0, .bool false, .int .i64 0, .int .i64 0, .int .i64 0] : Array Value).size = cs.toArray.size) := Lib.hid (show (23 : Nat) = cs.toArray.size by rw [List.size_toArray, hsz])
  have HI2 : Hid ((Try.prog.info? 72).map (·.size) = some cs.toArray.size) := Lib.hid (by rw [HI.out, List.size_toArray, hsz])
  have h1 := Lib.hid (all_oneCell_toArray J.one)
  have rng := Lib.hid (box_range (heap_alloc_new w2 (.cells cs.toArray 72)))
  have HI3 : Hid ((Try.prog.info? 72).map (·.size) = some cs.length) := Lib.hid (by rw [HI.out, hsz])
  have W := Lib.hid (whole_of C2 S)
  clear hsz S
  simp only [agg]
  have X2 := Lib.hid B2; clear B2
  go_wp2_with (refine wpList_store_last w2 rfl 72 _ _ rfl 72 #[.int .i64 0, .int .i64 0, .int .i64 0, .int .i64 0, .string ByteArray.empty, .string ByteArray.empty, .string ByteArray.empty, .string ByteArray.empty, .string ByteArray.empty, .slice none 0 0, .string ByteArray.empty, .int .i64 0, .slice none 0 0, .int .i64 0, .int .i64 0, .string ByteArray.empty, .string ByteArray.empty, .string ByteArray.empty, .int .i64 0, .bool false, .int .i64 0, .int .i64 0, .int .i64 0] cs.toArray w2.heap.size rfl rfl rfl HI2.out HS2.out h1.out ?_)
  rcases W.out with ⟨rfl, hj, hp⟩ | ⟨hbad, hp⟩
  · refine (whole_done _ _ _ j bs _ C3 hj).mono ?_
    rintro e w4 ⟨rfl, d, rfl⟩
    have D4 : Hid ((((w2.alloc (.cells cs.toArray 72)).drewN d).heap[w.heap.size]?) = some (.cells #[.int .i64 0, .int .i64 0, .int .i64 0, .int .i64 0, .string ByteArray.empty, .string ByteArray.empty, .string ByteArray.empty, .string ByteArray.empty, .string ByteArray.empty, .slice none 0 0, .string ByteArray.empty, .int .i64 0, .slice none 0 0, .int .i64 0, .int .i64 0, .string ByteArray.empty, .string ByteArray.empty, .string ByteArray.empty, .int .i64 0, .bool false, .int .i64 0, .int .i64 0, .int .i64 0] 72 (0, 0))) := Lib.hid D3.out
    have rng4 : Hid (((w2.alloc (.cells cs.toArray 72)).drewN d).rangeAt w2.heap.size 0 cs) := Lib.hid rng.out
    have HROW := Lib.hid (setRow_heap _ w.heap.size _ cs.toArray _ _ D4.out)
    have P := Lib.hid hp; clear hp hj
    go_wp2_with (first
      | (refine wpList_load_mid rfl 72 _ rfl w2.heap.size 0 rfl _ _ rng4.out Try.underlying72 rfl HI3.out ?_)
      | (refine wpList_store_row rfl 72 _ _ rfl w.heap.size 72 _ cs.toArray rfl rfl D4.out HI2.out HS2.out h1.out ?_))
    refine bodyPost_ret (results_row_tmp rfl _ _ w.heap.size _ _ (0, 0) _ rfl HROW.out Try.underlying72 rfl HI2.out) rfl ?_
    exact ⟨below_setRow (below_drewN B3 d) _, .inl ⟨P.out, cs, J, rfl⟩⟩
  · have hwh : Calls Try.prog 42 #[.pointer (some ⟨w0.heap.size + 1, 0, none⟩)] (w2.alloc (.cells cs.toArray 72)) fun e w' => e = .returned (.bool false) ∧ ∃ n, w' = (w2.alloc (.cells cs.toArray 72)).drewN n := by
      cases bad with
      | true => exact whole_bad _ _ _ j bs _ C3
      | false => exact whole_more _ _ _ j bs _ C3 (by rcases hbad with h | h; cases h; exact h)
    refine hwh.mono ?_
    rintro e w4 ⟨rfl, d, rfl⟩
    have D4 : Hid ((((w2.alloc (.cells cs.toArray 72)).drewN d).heap[w.heap.size]?) = some (.cells #[.int .i64 0, .int .i64 0, .int .i64 0, .int .i64 0, .string ByteArray.empty, .string ByteArray.empty, .string ByteArray.empty, .string ByteArray.empty, .string ByteArray.empty, .slice none 0 0, .string ByteArray.empty, .int .i64 0, .slice none 0 0, .int .i64 0, .int .i64 0, .string ByteArray.empty, .string ByteArray.empty, .string ByteArray.empty, .int .i64 0, .bool false, .int .i64 0, .int .i64 0, .int .i64 0] 72 (0, 0))) := Lib.hid D3.out
    have HROW := Lib.hid (setRow_heap _ w.heap.size _ #[.int .i64 0, .int .i64 0, .int .i64 0, .int .i64 0, .string ByteArray.empty, .string ByteArray.empty, .string ByteArray.empty, .string ByteArray.empty, .string ByteArray.empty, .slice none 0 0, .string ByteArray.empty, .int .i64 0, .slice none 0 0, .int .i64 0, .int .i64 0, .string ByteArray.empty, .string ByteArray.empty, .string ByteArray.empty, .int .i64 0, .bool false, .int .i64 0, .int .i64 0, .int .i64 0] _ _ D4.out)
    have P := Lib.hid hp; clear hp hbad hwh
    go_wp2_with (refine wpList_store_row rfl 72 _ _ rfl w.heap.size 72 _ #[.int .i64 0, .int .i64 0, .int .i64 0, .int .i64 0, .string ByteArray.empty, .string ByteArray.empty, .string ByteArray.empty, .string ByteArray.empty, .string ByteArray.empty, .slice none 0 0, .string ByteArray.empty, .int .i64 0, .slice none 0 0, .int .i64 0, .int .i64 0, .string ByteArray.empty, .string ByteArray.empty, .string ByteArray.empty, .int .i64 0, .bool false, .int .i64 0, .int .i64 0, .int .i64 0] rfl rfl D4.out HI.out rfl H1Z.out ?_)
    refine bodyPost_ret (results_row_tmp rfl _ _ w.heap.size _ _ (0, 0) _ rfl HROW.out Try.underlying72 rfl HI.out) rfl ?_
    exact ⟨below_setRow (below_drewN B3 d) _, .inr ⟨P.out, rfl⟩⟩

end Go.Proofs.Ytbhpbiimfcdgaaa
