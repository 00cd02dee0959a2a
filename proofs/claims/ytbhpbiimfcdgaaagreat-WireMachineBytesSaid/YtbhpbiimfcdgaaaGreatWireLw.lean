/-
  The document's Put of catalogs and machines, by contract (made by wip/gen_wire.py)
-/
import Derived.Test.YtbhpbiimfcdgaaaGreatWireLv
import Derived.Test.YtbhpbiimfcdgaaaGreatWireLc
import Derived.Test.YtbhpbiimfcdgaaaGreatWireD2
namespace Go.Proofs.YtbhpbiimfcdgaaaGreat
open Go.RowKit
set_option linter.unusedVariables false

set_option maxRecDepth 100000 in
set_option maxHeartbeats 2000000 in
theorem RefPut_Catalog (cs : List Value) (ts : List Tok) (w : World) (hI : Is w (· < w.heap.size) shCatalog cs ts) (hroom : Room [] ts) :
    Calls Tryz.prog 9 #[.agg cs.toArray] w (PutPost w ts) := by
  have hI2 : Is ((w.alloc (.cells cs.toArray 34)).alloc (.cells #[.slice none 0 0, .int .i64 0] 58)) (But (w.heap.size + 2) (w.heap.size + 1)) shCatalog cs ts :=
    hI.keep (fun k hk => ⟨by omega, by omega⟩) ((Keeps.refl.alloc _).alloc _)
  have hL := la_new w (.cells cs.toArray 34)
  obtain ⟨n0, n1, a2, l2, c2, a3, l3, c3, a4, l4, c4, a5, l5, c5, a6, l6, c6, rfl⟩ := cells_Catalog hI
  have hrng := Lib.hid (box_range (heap_alloc2_old w (.cells #[.int .i64 n0, .int .i64 n1, .slice a2 l2 c2, .slice a3 l3 c3, .slice a4 l4 c4, .slice a5 l5 c5, .slice a6 l6 c6] 34) (.cells #[.slice none 0 0, .int .i64 0] 58)))
  have hi : (Tryz.prog.info? 34).map (·.size) = some 7 := by kernel_rfl
  have HI := Lib.hid hi; clear hi
  go_enter Tryz.func9, Tryz.ntmps9
  go_wp2_with (refine wpList_load_mid rfl 34 _ rfl w.heap.size 0 rfl _ _ hrng.out Tryz.underlying34 rfl HI.out ?_)
  refine (l_catalog (w.heap.size + 1) _ [] 0 _ ts _ hL hI2 hroom).mono ?_
  rintro e w1 ⟨rfl, K, xs', E', L, h1, h2, h3⟩
  rw [if_pos rfl] at h1
  have hb := la_below K
  by_cases hE : E' = 0
  · have hx := h2 hE
    rw [List.nil_append] at hx
    rw [hx, hE] at L
    obtain ⟨v, c0, c1, hown⟩ := la_row (n := w.heap.size) L (by omega) (by omega)
    have HF : Hid (firstF ts = 0) := Lib.hid (h1.symm.trans hE)
    clear h1 h2 h3 hx hE
    go_wp2_with fail
    refine (out_ok _ v w1 c0 c1).mono ?_
    rintro e w2 ⟨rfl, rfl⟩
    go_wp2_with fail
    go_ret2
    exact ⟨hb, .inl ⟨HF.out, v, rfl, hown⟩⟩
  · have H1 := Lib.hid h1; clear h1 h2 h3
    go_wp2_with fail
    refine (out_bad _ _ xs' E' w1 L hE).mono ?_
    rintro e w2 ⟨rfl, d, rfl⟩
    go_wp2_with fail
    go_ret2
    exact ⟨hb.trans ⟨rfl, rfl, rfl, Nat.le_refl _, fun _ _ => rfl⟩, .inr ⟨by rw [← H1.out]; exact hE, by rw [← H1.out]; rfl⟩⟩

set_option maxRecDepth 100000 in
set_option maxHeartbeats 2000000 in
theorem RefPut_Machine (cs : List Value) (ts : List Tok) (w : World) (hI : Is w (· < w.heap.size) shMachine cs ts) (hroom : Room [] ts) :
    Calls Tryz.prog 13 #[.agg cs.toArray] w (PutPost w ts) := by
  have hI2 : Is ((w.alloc (.cells cs.toArray 46)).alloc (.cells #[.slice none 0 0, .int .i64 0] 58)) (But (w.heap.size + 2) (w.heap.size + 1)) shMachine cs ts :=
    hI.keep (fun k hk => ⟨by omega, by omega⟩) ((Keeps.refl.alloc _).alloc _)
  have hL := la_new w (.cells cs.toArray 46)
  obtain ⟨n0_0, n0_1, a0_2, l0_2, c0_2, a0_3, l0_3, c0_3, a0_4, l0_4, c0_4, a0_5, l0_5, c0_5, a0_6, l0_6, c0_6, a1, l1, c1, a2, l2, c2, n3, rfl⟩ := cells_Machine hI
  have hrng := Lib.hid (box_range (heap_alloc2_old w (.cells #[.int .i64 n0_0, .int .i64 n0_1, .slice a0_2 l0_2 c0_2, .slice a0_3 l0_3 c0_3, .slice a0_4 l0_4 c0_4, .slice a0_5 l0_5 c0_5, .slice a0_6 l0_6 c0_6, .slice a1 l1 c1, .slice a2 l2 c2, .int .i64 n3] 46) (.cells #[.slice none 0 0, .int .i64 0] 58)))
  have hi : (Tryz.prog.info? 46).map (·.size) = some 10 := by kernel_rfl
  have HI := Lib.hid hi; clear hi
  go_enter Tryz.func13, Tryz.ntmps13
  go_wp2_with (refine wpList_load_mid rfl 46 _ rfl w.heap.size 0 rfl _ _ hrng.out Tryz.underlying46 rfl HI.out ?_)
  refine (l_machine (w.heap.size + 1) _ [] 0 _ ts _ hL hI2 hroom).mono ?_
  rintro e w1 ⟨rfl, K, xs', E', L, h1, h2, h3⟩
  rw [if_pos rfl] at h1
  have hb := la_below K
  by_cases hE : E' = 0
  · have hx := h2 hE
    rw [List.nil_append] at hx
    rw [hx, hE] at L
    obtain ⟨v, c0, c1, hown⟩ := la_row (n := w.heap.size) L (by omega) (by omega)
    have HF : Hid (firstF ts = 0) := Lib.hid (h1.symm.trans hE)
    clear h1 h2 h3 hx hE
    go_wp2_with fail
    refine (out_ok _ v w1 c0 c1).mono ?_
    rintro e w2 ⟨rfl, rfl⟩
    go_wp2_with fail
    go_ret2
    exact ⟨hb, .inl ⟨HF.out, v, rfl, hown⟩⟩
  · have H1 := Lib.hid h1; clear h1 h2 h3
    go_wp2_with fail
    refine (out_bad _ _ xs' E' w1 L hE).mono ?_
    rintro e w2 ⟨rfl, d, rfl⟩
    go_wp2_with fail
    go_ret2
    exact ⟨hb.trans ⟨rfl, rfl, rfl, Nat.le_refl _, fun _ _ => rfl⟩, .inr ⟨by rw [← H1.out]; exact hE, by rw [← H1.out]; rfl⟩⟩

end Go.Proofs.YtbhpbiimfcdgaaaGreat
