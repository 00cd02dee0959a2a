/-
  The document's Put of records, commands, operations, by contract (made by wip/gen_wire.py)
-/
import Derived.Test.YtbhpbiimfcdgaaaWireLb
import Derived.Test.YtbhpbiimfcdgaaaWireLc
import Derived.Test.YtbhpbiimfcdgaaaWireD1
namespace Go.Proofs.Ytbhpbiimfcdgaaa
open Go.RowKit
set_option linter.unusedVariables false

set_option maxRecDepth 100000 in
set_option maxHeartbeats 2000000 in
theorem RefPut_Record (cs : List Value) (ts : List Tok) (w : World) (hI : Is w (· < w.heap.size) shRecord cs ts) (hroom : Room [] ts) :
    Calls Try.prog 22 #[.agg cs.toArray] w (PutPost w ts) := by
  have hI2 : Is ((w.alloc (.cells cs.toArray 65)).alloc (.cells #[.slice none 0 0, .int .i64 0] 91)) (But (w.heap.size + 2) (w.heap.size + 1)) shRecord cs ts :=
    hI.keep (fun k hk => ⟨by omega, by omega⟩) ((Keeps.refl.alloc _).alloc _)
  have hL := la_new w (.cells cs.toArray 65)
  obtain ⟨n0, n1, n2, n3_0, n3_1, n3_2, a3_3_0, l3_3_0, c3_3_0, a3_3_1, l3_3_1, c3_3_1, s3_4, n4, n5_0, n5_1, a5_2_0, l5_2_0, c5_2_0, a5_2_1, l5_2_1, c5_2_1, s5_3, rfl⟩ := cells_Record hI
  have hrng := Lib.hid (box_range (heap_alloc2_old w (.cells #[.int .i64 n0, .int .i64 n1, .int .i64 n2, .int .i64 n3_0, .int .i64 n3_1, .int .i64 n3_2, .slice a3_3_0 l3_3_0 c3_3_0, .slice a3_3_1 l3_3_1 c3_3_1, .string s3_4, .int .i64 n4, .int .i64 n5_0, .int .i64 n5_1, .slice a5_2_0 l5_2_0 c5_2_0, .slice a5_2_1 l5_2_1 c5_2_1, .string s5_3] 65) (.cells #[.slice none 0 0, .int .i64 0] 91)))
  have hi : (Try.prog.info? 65).map (·.size) = some 15 := by kernel_rfl
  have HI := Lib.hid hi; clear hi
  go_enter Try.func22, Try.ntmps22
  go_wp2_with (refine wpList_load_mid rfl 65 _ rfl w.heap.size 0 rfl _ _ hrng.out Try.underlying65 rfl HI.out ?_)
  refine (l_record (w.heap.size + 1) _ [] 0 _ ts _ hL hI2 hroom).mono ?_
  rintro e w1 ⟨rfl, K, xs', E', L, h1, h2, h3⟩
  rw [if_pos rfl] at h1
  have hb := la_below K
  by_cases hE : E' = 0
  · have hx := h2 hE
    rw [List.nil_append] at hx
    rw [hx, hE] at L
    obtain ⟨v, c0, c1, hown⟩ := la_row (n := w.heap.size) L (by omega) (by omega)
    have HF : Hid (firstF ts = 0) := Lib.hid (h1.symm.trans hE)
    clear h1 h2 h3 hx hE
    go_wp2_with fail
    refine (out_ok _ v w1 c0 c1).mono ?_
    rintro e w2 ⟨rfl, rfl⟩
    go_wp2_with fail
    go_ret2
    exact ⟨hb, .inl ⟨HF.out, v, rfl, hown⟩⟩
  · have H1 := Lib.hid h1; clear h1 h2 h3
    go_wp2_with fail
    refine (out_bad _ _ xs' E' w1 L hE).mono ?_
    rintro e w2 ⟨rfl, d, rfl⟩
    go_wp2_with fail
    go_ret2
    exact ⟨hb.trans ⟨rfl, rfl, rfl, Nat.le_refl _, fun _ _ => rfl⟩, .inr ⟨by rw [← H1.out]; exact hE, by rw [← H1.out]; rfl⟩⟩

set_option maxRecDepth 100000 in
set_option maxHeartbeats 2000000 in
theorem RefPut_Command (cs : List Value) (ts : List Tok) (w : World) (hI : Is w (· < w.heap.size) shCommand cs ts) (hroom : Room [] ts) :
    Calls Try.prog 13 #[.agg cs.toArray] w (PutPost w ts) := by
  have hI2 : Is ((w.alloc (.cells cs.toArray 30)).alloc (.cells #[.slice none 0 0, .int .i64 0] 91)) (But (w.heap.size + 2) (w.heap.size + 1)) shCommand cs ts :=
    hI.keep (fun k hk => ⟨by omega, by omega⟩) ((Keeps.refl.alloc _).alloc _)
  have hL := la_new w (.cells cs.toArray 30)
  obtain ⟨n0, s1, s2, s3, s4, s5, a6, l6, c6, s7_0, n7_1, a7_2, l7_2, c7_2, n7_3, n7_4, s7_5, s7_6, s7_7, n8, b9, rfl⟩ := cells_Command hI
  have hrng := Lib.hid (box_range (heap_alloc2_old w (.cells #[.int .i64 n0, .string s1, .string s2, .string s3, .string s4, .string s5, .slice a6 l6 c6, .string s7_0, .int .i64 n7_1, .slice a7_2 l7_2 c7_2, .int .i64 n7_3, .int .i64 n7_4, .string s7_5, .string s7_6, .string s7_7, .int .i64 n8, .bool b9] 30) (.cells #[.slice none 0 0, .int .i64 0] 91)))
  have hi : (Try.prog.info? 30).map (·.size) = some 17 := by kernel_rfl
  have HI := Lib.hid hi; clear hi
  go_enter Try.func13, Try.ntmps13
  go_wp2_with (refine wpList_load_mid rfl 30 _ rfl w.heap.size 0 rfl _ _ hrng.out Try.underlying30 rfl HI.out ?_)
  refine (l_command (w.heap.size + 1) _ [] 0 _ ts _ hL hI2 hroom).mono ?_
  rintro e w1 ⟨rfl, K, xs', E', L, h1, h2, h3⟩
  rw [if_pos rfl] at h1
  have hb := la_below K
  by_cases hE : E' = 0
  · have hx := h2 hE
    rw [List.nil_append] at hx
    rw [hx, hE] at L
    obtain ⟨v, c0, c1, hown⟩ := la_row (n := w.heap.size) L (by omega) (by omega)
    have HF : Hid (firstF ts = 0) := Lib.hid (h1.symm.trans hE)
    clear h1 h2 h3 hx hE
    go_wp2_with fail
    refine (out_ok _ v w1 c0 c1).mono ?_
    rintro e w2 ⟨rfl, rfl⟩
    go_wp2_with fail
    go_ret2
    exact ⟨hb, .inl ⟨HF.out, v, rfl, hown⟩⟩
  · have H1 := Lib.hid h1; clear h1 h2 h3
    go_wp2_with fail
    refine (out_bad _ _ xs' E' w1 L hE).mono ?_
    rintro e w2 ⟨rfl, d, rfl⟩
    go_wp2_with fail
    go_ret2
    exact ⟨hb.trans ⟨rfl, rfl, rfl, Nat.le_refl _, fun _ _ => rfl⟩, .inr ⟨by rw [← H1.out]; exact hE, by rw [← H1.out]; rfl⟩⟩

set_option maxRecDepth 100000 in
set_option maxHeartbeats 2000000 in
theorem RefPut_Op (cs : List Value) (ts : List Tok) (w : World) (hI : Is w (· < w.heap.size) shOp cs ts) (hroom : Room [] ts) :
    Calls Try.prog 26 #[.agg cs.toArray] w (PutPost w ts) := by
  have hI2 : Is ((w.alloc (.cells cs.toArray 72)).alloc (.cells #[.slice none 0 0, .int .i64 0] 91)) (But (w.heap.size + 2) (w.heap.size + 1)) shOp cs ts :=
    hI.keep (fun k hk => ⟨by omega, by omega⟩) ((Keeps.refl.alloc _).alloc _)
  have hL := la_new w (.cells cs.toArray 72)
  obtain ⟨n0, n1, n2, n3_0, s3_1, s3_2, s3_3, s3_4, s3_5, a3_6, l3_6, c3_6, s3_7_0, n3_7_1, a3_7_2, l3_7_2, c3_7_2, n3_7_3, n3_7_4, s3_7_5, s3_7_6, s3_7_7, n3_8, b3_9, n4, n5, n6, rfl⟩ := cells_Op hI
  have hrng := Lib.hid (box_range (heap_alloc2_old w (.cells #[.int .i64 n0, .int .i64 n1, .int .i64 n2, .int .i64 n3_0, .string s3_1, .string s3_2, .string s3_3, .string s3_4, .string s3_5, .slice a3_6 l3_6 c3_6, .string s3_7_0, .int .i64 n3_7_1, .slice a3_7_2 l3_7_2 c3_7_2, .int .i64 n3_7_3, .int .i64 n3_7_4, .string s3_7_5, .string s3_7_6, .string s3_7_7, .int .i64 n3_8, .bool b3_9, .int .i64 n4, .int .i64 n5, .int .i64 n6] 72) (.cells #[.slice none 0 0, .int .i64 0] 91)))
  have hi : (Try.prog.info? 72).map (·.size) = some 23 := by kernel_rfl
  have HI := Lib.hid hi; clear hi
  go_enter Try.func26, Try.ntmps26
  go_wp2_with (refine wpList_load_mid rfl 72 _ rfl w.heap.size 0 rfl _ _ hrng.out Try.underlying72 rfl HI.out ?_)
  refine (l_op (w.heap.size + 1) _ [] 0 _ ts _ hL hI2 hroom).mono ?_
  rintro e w1 ⟨rfl, K, xs', E', L, h1, h2, h3⟩
  rw [if_pos rfl] at h1
  have hb := la_below K
  by_cases hE : E' = 0
  · have hx := h2 hE
    rw [List.nil_append] at hx
    rw [hx, hE] at L
    obtain ⟨v, c0, c1, hown⟩ := la_row (n := w.heap.size) L (by omega) (by omega)
    have HF : Hid (firstF ts = 0) := Lib.hid (h1.symm.trans hE)
    clear h1 h2 h3 hx hE
    go_wp2_with fail
    refine (out_ok _ v w1 c0 c1).mono ?_
    rintro e w2 ⟨rfl, rfl⟩
    go_wp2_with fail
    go_ret2
    exact ⟨hb, .inl ⟨HF.out, v, rfl, hown⟩⟩
  · have H1 := Lib.hid h1; clear h1 h2 h3
    go_wp2_with fail
    refine (out_bad _ _ xs' E' w1 L hE).mono ?_
    rintro e w2 ⟨rfl, d, rfl⟩
    go_wp2_with fail
    go_ret2
    exact ⟨hb.trans ⟨rfl, rfl, rfl, Nat.le_refl _, fun _ _ => rfl⟩, .inr ⟨by rw [← H1.out]; exact hE, by rw [← H1.out]; rfl⟩⟩

end Go.Proofs.Ytbhpbiimfcdgaaa
