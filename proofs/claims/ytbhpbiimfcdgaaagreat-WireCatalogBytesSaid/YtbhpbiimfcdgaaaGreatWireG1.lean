/-
  The program's Get of commands, records and operations, by contract (made by wip/gen_wire.py)
-/
import Derived.Test.YtbhpbiimfcdgaaaGreatWireG
namespace Go.Proofs.YtbhpbiimfcdgaaaGreat
open Go.RowKit
set_option linter.unusedVariables false

set_option maxRecDepth 100000 in
set_option maxHeartbeats 2000000 in
theorem clo_get_Op (B bb bt bx : Nat) (a : Option Addr) (len cap : Nat) (bs : List UInt8) (w : World) (hB : B ≤ w.heap.size) (hBx : B ≤ bx) (hl : bs.length = len) (hlc : len ≤ cap) (hcm : cap ≤ maxLen) (hrd : RdS w (· < B) a (cb bs))
    (hb : w.cell? ⟨bb, 0, none⟩ = some (.slice a len cap)) (ht : w.cell? ⟨bt, 0, none⟩ = some (.func (.func 58) #[] #[])) (hx : w.heap[bx]? = some (.cells #[.int .i64 0, .int .i64 0, .int .i64 0, .int .i64 0, .string ByteArray.empty, .string ByteArray.empty, .string ByteArray.empty, .string ByteArray.empty, .string ByteArray.empty, .slice none 0 0, .string ByteArray.empty, .int .i64 0, .slice none 0 0, .int .i64 0, .int .i64 0, .string ByteArray.empty, .string ByteArray.empty, .string ByteArray.empty, .int .i64 0, .bool false, .int .i64 0, .int .i64 0, .int .i64 0] 72 (0, 0))) :
    Calls Tryz.prog 86 #[.pointer (some ⟨bb, 0, none⟩), .pointer (some ⟨bt, 0, none⟩), .pointer (some ⟨bx, 0, none⟩)] w (CloPost w bx 72 shOp bs) := by
  have hi : (Tryz.prog.info? 72).map (·.size) = some 23 := by kernel_rfl
  have HI := Lib.hid hi; clear hi
  have hlt := lt_of_block hx
  have hRe : Re (w.alloc (.cells #[.slice a len cap] 94)) w.heap.size B bs := by
    subst hl
    exact ⟨hB, a, cap, heap_alloc_new w _, hrd.kept (fun _ h => h) (Keeps.refl.alloc _), hlc, hcm⟩
  have HX := Lib.hid hx; clear hx
  have HL := Lib.hid hl; clear hl
  have ht2 : (w.alloc (.cells #[.slice a len cap] 94)).cell? ⟨bt, 0, none⟩ = some (.func (.func 58) #[] #[]) := (Keeps.refl (S := fun _ => True)).alloc _ |>.cell ht trivial
  clear ht
  go_enter Tryz.func86, Tryz.ntmps86
  go_wp2_with fail
  refine (r_op w.heap.size bs _ hRe).mono ?_
  rintro e w1 ⟨K1, ⟨ts, r, cs, P, rfl, I, R⟩ | ⟨P, rfl⟩⟩
  case inr => exact ⟨rfl, keeps_box K1, .inr ⟨fun ts h => by (rw [P] at h; cases h), rfl⟩⟩
  obtain ⟨n0, n1, n2, n3_0, s3_1, s3_2, s3_3, s3_4, s3_5, a3_6, l3_6, c3_6, s3_7_0, n3_7_1, a3_7_2, l3_7_2, c3_7_2, n3_7_3, n3_7_4, s3_7_5, s3_7_6, s3_7_7, n3_8, b3_9, n4, n5, n6, rfl⟩ := cells_Op I
  simp only [agg]
  have P := Lib.hid P
  have HX1 := Lib.hid ((keeps_box (S := fun _ => True) K1).row HX.out trivial)
  have h1 := Lib.hid (all_oneCell_toArray I.oneCell)
  have KK := keeps_setRow (keeps_box (S := Off bx) K1) #[.int .i64 n0, .int .i64 n1, .int .i64 n2, .int .i64 n3_0, .string s3_1, .string s3_2, .string s3_3, .string s3_4, .string s3_5, .slice a3_6 l3_6 c3_6, .string s3_7_0, .int .i64 n3_7_1, .slice a3_7_2 l3_7_2 c3_7_2, .int .i64 n3_7_3, .int .i64 n3_7_4, .string s3_7_5, .string s3_7_6, .string s3_7_7, .int .i64 n3_8, .bool b3_9, .int .i64 n4, .int .i64 n5, .int .i64 n6]
  have HROW := Lib.hid (setRow_heap w1 bx _ #[.int .i64 n0, .int .i64 n1, .int .i64 n2, .int .i64 n3_0, .string s3_1, .string s3_2, .string s3_3, .string s3_4, .string s3_5, .slice a3_6 l3_6 c3_6, .string s3_7_0, .int .i64 n3_7_1, .slice a3_7_2 l3_7_2 c3_7_2, .int .i64 n3_7_3, .int .i64 n3_7_4, .string s3_7_5, .string s3_7_6, .string s3_7_7, .int .i64 n3_8, .bool b3_9, .int .i64 n4, .int .i64 n5, .int .i64 n6] _ _ HX1.out)
  have R2 := R.setRow' (g := bx) (by omega) hBx #[.int .i64 n0, .int .i64 n1, .int .i64 n2, .int .i64 n3_0, .string s3_1, .string s3_2, .string s3_3, .string s3_4, .string s3_5, .slice a3_6 l3_6 c3_6, .string s3_7_0, .int .i64 n3_7_1, .slice a3_7_2 l3_7_2 c3_7_2, .int .i64 n3_7_3, .int .i64 n3_7_4, .string s3_7_5, .string s3_7_6, .string s3_7_7, .int .i64 n3_8, .bool b3_9, .int .i64 n4, .int .i64 n5, .int .i64 n6]
  have I2 := I.keep (S' := New w.heap.size (w1.setRow bx #[.int .i64 n0, .int .i64 n1, .int .i64 n2, .int .i64 n3_0, .string s3_1, .string s3_2, .string s3_3, .string s3_4, .string s3_5, .slice a3_6 l3_6 c3_6, .string s3_7_0, .int .i64 n3_7_1, .slice a3_7_2 l3_7_2 c3_7_2, .int .i64 n3_7_3, .int .i64 n3_7_4, .string s3_7_5, .string s3_7_6, .string s3_7_7, .int .i64 n3_8, .bool b3_9, .int .i64 n4, .int .i64 n5, .int .i64 n6]).heap.size) (fun k hk => ⟨by have := hk.1; simp at this; omega, by simpa using hk.2⟩) ((⟨rfl, rfl, rfl, by simp, fun k _ hk => setRow_other w1 bx k _ (by have := hk.1; simp at this; omega)⟩ : Keeps _ w1 (w1.setRow bx #[.int .i64 n0, .int .i64 n1, .int .i64 n2, .int .i64 n3_0, .string s3_1, .string s3_2, .string s3_3, .string s3_4, .string s3_5, .slice a3_6 l3_6 c3_6, .string s3_7_0, .int .i64 n3_7_1, .slice a3_7_2 l3_7_2 c3_7_2, .int .i64 n3_7_3, .int .i64 n3_7_4, .string s3_7_5, .string s3_7_6, .string s3_7_7, .int .i64 n3_8, .bool b3_9, .int .i64 n4, .int .i64 n5, .int .i64 n6])))
  cases r with
  | nil =>
    go_wp2_with (refine wpList_store_row rfl 72 _ _ rfl bx 72 _ #[.int .i64 n0, .int .i64 n1, .int .i64 n2, .int .i64 n3_0, .string s3_1, .string s3_2, .string s3_3, .string s3_4, .string s3_5, .slice a3_6 l3_6 c3_6, .string s3_7_0, .int .i64 n3_7_1, .slice a3_7_2 l3_7_2 c3_7_2, .int .i64 n3_7_3, .int .i64 n3_7_4, .string s3_7_5, .string s3_7_6, .string s3_7_7, .int .i64 n3_8, .bool b3_9, .int .i64 n4, .int .i64 n5, .int .i64 n6] rfl rfl HX1.out HI.out rfl h1.out ?_)
    refine (end_none w.heap.size _ R2).mono ?_
    rintro e w2 ⟨rfl, rfl⟩
    go_wp2_with fail
    go_end0
    exact ⟨KK, .inl ⟨_, _, P.out, rfl, HROW.out, I2⟩⟩
  | cons b r =>
    go_wp2_with (refine wpList_store_row rfl 72 _ _ rfl bx 72 _ #[.int .i64 n0, .int .i64 n1, .int .i64 n2, .int .i64 n3_0, .string s3_1, .string s3_2, .string s3_3, .string s3_4, .string s3_5, .slice a3_6 l3_6 c3_6, .string s3_7_0, .int .i64 n3_7_1, .slice a3_7_2 l3_7_2 c3_7_2, .int .i64 n3_7_3, .int .i64 n3_7_4, .string s3_7_5, .string s3_7_6, .string s3_7_7, .int .i64 n3_8, .bool b3_9, .int .i64 n4, .int .i64 n5, .int .i64 n6] rfl rfl HX1.out HI.out rfl h1.out ?_)
    refine (end_some w.heap.size _ _ R2 (by simp)).mono ?_
    rintro e w2 ⟨rfl, rfl⟩
    exact ⟨rfl, KK, .inr ⟨fun ts h => by (rw [P.out] at h; simp at h), rfl⟩⟩

set_option maxRecDepth 100000 in
set_option maxHeartbeats 2000000 in
theorem get_Op (a : Option Addr) (len cap : Nat) (bs : List UInt8) (w : World) (hl : bs.length = len) (hrd : RdS w (· < w.heap.size) a (cb bs)) (hlc : len ≤ cap) (hcm : cap ≤ maxLen) :
    Calls Tryz.prog 57 #[.slice a len cap, .func (.func 58) #[] #[]] w (GetPost w #[.int .i64 0, .int .i64 0, .int .i64 0, .int .i64 0, .string ByteArray.empty, .string ByteArray.empty, .string ByteArray.empty, .string ByteArray.empty, .string ByteArray.empty, .slice none 0 0, .string ByteArray.empty, .int .i64 0, .slice none 0 0, .int .i64 0, .int .i64 0, .string ByteArray.empty, .string ByteArray.empty, .string ByteArray.empty, .int .i64 0, .bool false, .int .i64 0, .int .i64 0, .int .i64 0] shOp bs) := by
  have hmf : ∀ (fn : Fn) (first cap : Array Value) (w : World), (Instr.makeFunc fn first cap).run Tryz.prog w = .ok (.func fn first cap) w := fun _ _ _ _ => rfl
  have hcore := get_core w a len cap bs 72 #[.int .i64 0, .int .i64 0, .int .i64 0, .int .i64 0, .string ByteArray.empty, .string ByteArray.empty, .string ByteArray.empty, .string ByteArray.empty, .string ByteArray.empty, .slice none 0 0, .string ByteArray.empty, .int .i64 0, .slice none 0 0, .int .i64 0, .int .i64 0, .string ByteArray.empty, .string ByteArray.empty, .string ByteArray.empty, .int .i64 0, .bool false, .int .i64 0, .int .i64 0, .int .i64 0] shOp 58 86 138 (fun _ _ => rfl) hl hrd hlc hcm
    (fun bb bt bx w6 hz hbx hr hb ht hx => clo_get_Op w.heap.size bb bt bx a len cap bs w6 hz hbx hl hlc hcm hr hb ht hx)
  have hi : (Tryz.prog.info? 72).map (·.size) = some 23 := by kernel_rfl
  have HI := Lib.hid hi; clear hi
  have HC := Lib.hid hcore; clear hcore
  have HL := Lib.hid hl; clear hl
  go_enter Tryz.func57, Tryz.ntmps57
  go_wp2_with fail
  refine HC.out.mono ?_
  rintro e w' ⟨c, rfl, hb, h2, h4, ⟨rfl, ts, cs, P, h3, I⟩ | ⟨rfl, P⟩⟩
  · obtain ⟨n0, n1, n2, n3_0, s3_1, s3_2, s3_3, s3_4, s3_5, a3_6, l3_6, c3_6, s3_7_0, n3_7_1, a3_7_2, l3_7_2, c3_7_2, n3_7_3, n3_7_4, s3_7_5, s3_7_6, s3_7_7, n3_8, b3_9, n4, n5, n6, rfl⟩ := cells_Op I
    have P := Lib.hid P
    have H2 := Lib.hid h2; clear h2 h4
    have hrng := Lib.hid (box_range h3); clear h3
    have h1 := Lib.hid (all_oneCell_toArray I.oneCell)
    have HROW := Lib.hid (setRow_heap w' (w.heap.size + 1 + 1) _ #[.int .i64 n0, .int .i64 n1, .int .i64 n2, .int .i64 n3_0, .string s3_1, .string s3_2, .string s3_3, .string s3_4, .string s3_5, .slice a3_6 l3_6 c3_6, .string s3_7_0, .int .i64 n3_7_1, .slice a3_7_2 l3_7_2 c3_7_2, .int .i64 n3_7_3, .int .i64 n3_7_4, .string s3_7_5, .string s3_7_6, .string s3_7_7, .int .i64 n3_8, .bool b3_9, .int .i64 n4, .int .i64 n5, .int .i64 n6] _ _ H2.out)
    have hb2 : Below w.heap.size w (w'.setRow (w.heap.size + 1 + 1) #[.int .i64 n0, .int .i64 n1, .int .i64 n2, .int .i64 n3_0, .string s3_1, .string s3_2, .string s3_3, .string s3_4, .string s3_5, .slice a3_6 l3_6 c3_6, .string s3_7_0, .int .i64 n3_7_1, .slice a3_7_2 l3_7_2 c3_7_2, .int .i64 n3_7_3, .int .i64 n3_7_4, .string s3_7_5, .string s3_7_6, .string s3_7_7, .int .i64 n3_8, .bool b3_9, .int .i64 n4, .int .i64 n5, .int .i64 n6]) := hb.trans ⟨rfl, rfl, rfl, by simp, fun k hk => setRow_other w' _ k _ (by omega)⟩
    have I2 := I.keep (S' := New w.heap.size (w'.setRow (w.heap.size + 1 + 1) #[.int .i64 n0, .int .i64 n1, .int .i64 n2, .int .i64 n3_0, .string s3_1, .string s3_2, .string s3_3, .string s3_4, .string s3_5, .slice a3_6 l3_6 c3_6, .string s3_7_0, .int .i64 n3_7_1, .slice a3_7_2 l3_7_2 c3_7_2, .int .i64 n3_7_3, .int .i64 n3_7_4, .string s3_7_5, .string s3_7_6, .string s3_7_7, .int .i64 n3_8, .bool b3_9, .int .i64 n4, .int .i64 n5, .int .i64 n6]).heap.size) (fun k hk => ⟨by have := hk.1; omega, by simpa using hk.2⟩) ((⟨rfl, rfl, rfl, by simp, fun k _ hk => setRow_other w' _ k _ (by have := hk.1; omega)⟩ : Keeps _ w' (w'.setRow (w.heap.size + 1 + 1) #[.int .i64 n0, .int .i64 n1, .int .i64 n2, .int .i64 n3_0, .string s3_1, .string s3_2, .string s3_3, .string s3_4, .string s3_5, .slice a3_6 l3_6 c3_6, .string s3_7_0, .int .i64 n3_7_1, .slice a3_7_2 l3_7_2 c3_7_2, .int .i64 n3_7_3, .int .i64 n3_7_4, .string s3_7_5, .string s3_7_6, .string s3_7_7, .int .i64 n3_8, .bool b3_9, .int .i64 n4, .int .i64 n5, .int .i64 n6])))
    go_wp2_with (first
      | (refine wpList_store_row rfl 72 _ _ rfl (w.heap.size + 1 + 1) 72 _ #[.int .i64 n0, .int .i64 n1, .int .i64 n2, .int .i64 n3_0, .string s3_1, .string s3_2, .string s3_3, .string s3_4, .string s3_5, .slice a3_6 l3_6 c3_6, .string s3_7_0, .int .i64 n3_7_1, .slice a3_7_2 l3_7_2 c3_7_2, .int .i64 n3_7_3, .int .i64 n3_7_4, .string s3_7_5, .string s3_7_6, .string s3_7_7, .int .i64 n3_8, .bool b3_9, .int .i64 n4, .int .i64 n5, .int .i64 n6] rfl rfl H2.out HI.out rfl h1.out ?_)
      | (refine wpList_load_mid rfl 72 _ rfl (w.heap.size + 1 + 1 + 1) 0 rfl _ _ hrng.out Tryz.underlying72 rfl HI.out ?_))
    refine bodyPost_ret (results_row_tmp rfl _ _ (w.heap.size + 1 + 1) _ _ (0, 0) _ rfl HROW.out Tryz.underlying72 rfl HI.out) rfl ?_
    exact ⟨hb2, .inl ⟨_, _, P.out, rfl, I2⟩⟩
  · have P := Lib.hid P
    have H2 := Lib.hid h2; clear h2
    have hrng := Lib.hid (box_range (cs := [.int .i64 0, .int .i64 0, .int .i64 0, .int .i64 0, .string ByteArray.empty, .string ByteArray.empty, .string ByteArray.empty, .string ByteArray.empty, .string ByteArray.empty, .slice none 0 0, .string ByteArray.empty, .int .i64 0, .slice none 0 0, .int .i64 0, .int .i64 0, .string ByteArray.empty, .string ByteArray.empty, .string ByteArray.empty, .int .i64 0, .bool false, .int .i64 0, .int .i64 0, .int .i64 0]) h4); clear h4
    have h1 : (#[.int .i64 0, .int .i64 0, .int .i64 0, .int .i64 0, .string ByteArray.empty, .string ByteArray.empty, .string ByteArray.empty, .string ByteArray.empty, .string ByteArray.empty, .slice none 0 0, .string ByteArray.empty, .int .i64 0, .slice none 0 0, .int .i64 0, .int .i64 0, .string ByteArray.empty, .string ByteArray.empty, .string ByteArray.empty, .int .i64 0, .bool false, .int .i64 0, .int .i64 0, .int .i64 0] : Array Value).all (·.oneCell') = true := by kernel_rfl
    have h1 := Lib.hid h1
    have HROW := Lib.hid (setRow_heap w' (w.heap.size + 1 + 1) _ #[.int .i64 0, .int .i64 0, .int .i64 0, .int .i64 0, .string ByteArray.empty, .string ByteArray.empty, .string ByteArray.empty, .string ByteArray.empty, .string ByteArray.empty, .slice none 0 0, .string ByteArray.empty, .int .i64 0, .slice none 0 0, .int .i64 0, .int .i64 0, .string ByteArray.empty, .string ByteArray.empty, .string ByteArray.empty, .int .i64 0, .bool false, .int .i64 0, .int .i64 0, .int .i64 0] _ _ H2.out)
    have hb2 : Below w.heap.size w (w'.setRow (w.heap.size + 1 + 1) #[.int .i64 0, .int .i64 0, .int .i64 0, .int .i64 0, .string ByteArray.empty, .string ByteArray.empty, .string ByteArray.empty, .string ByteArray.empty, .string ByteArray.empty, .slice none 0 0, .string ByteArray.empty, .int .i64 0, .slice none 0 0, .int .i64 0, .int .i64 0, .string ByteArray.empty, .string ByteArray.empty, .string ByteArray.empty, .int .i64 0, .bool false, .int .i64 0, .int .i64 0, .int .i64 0]) := hb.trans ⟨rfl, rfl, rfl, by simp, fun k hk => setRow_other w' _ k _ (by omega)⟩
    go_wp2_with (first
      | (refine wpList_store_row rfl 72 _ _ rfl (w.heap.size + 1 + 1) 72 _ #[.int .i64 0, .int .i64 0, .int .i64 0, .int .i64 0, .string ByteArray.empty, .string ByteArray.empty, .string ByteArray.empty, .string ByteArray.empty, .string ByteArray.empty, .slice none 0 0, .string ByteArray.empty, .int .i64 0, .slice none 0 0, .int .i64 0, .int .i64 0, .string ByteArray.empty, .string ByteArray.empty, .string ByteArray.empty, .int .i64 0, .bool false, .int .i64 0, .int .i64 0, .int .i64 0] rfl rfl H2.out HI.out rfl h1.out ?_)
      | (refine wpList_load_mid rfl 72 _ rfl (w.heap.size + 1 + 1 + 1 + 1) 0 rfl _ _ hrng.out Tryz.underlying72 rfl HI.out ?_))
    refine bodyPost_ret (results_row_tmp rfl _ _ (w.heap.size + 1 + 1) _ _ (0, 0) _ rfl HROW.out Tryz.underlying72 rfl HI.out) rfl ?_
    exact ⟨hb2, .inr ⟨P.out, rfl⟩⟩

set_option maxRecDepth 100000 in
set_option maxHeartbeats 2000000 in
theorem Get_Op (a : Option Addr) (len cap : Nat) (bs : List UInt8) (w : World) (hl : bs.length = len) (hrd : RdS w (· < w.heap.size) a (cb bs)) (hlc : len ≤ cap) (hcm : cap ≤ maxLen) :
    Calls Tryz.prog 22 #[.slice a len cap] w (GetPost w #[.int .i64 0, .int .i64 0, .int .i64 0, .int .i64 0, .string ByteArray.empty, .string ByteArray.empty, .string ByteArray.empty, .string ByteArray.empty, .string ByteArray.empty, .slice none 0 0, .string ByteArray.empty, .int .i64 0, .slice none 0 0, .int .i64 0, .int .i64 0, .string ByteArray.empty, .string ByteArray.empty, .string ByteArray.empty, .int .i64 0, .bool false, .int .i64 0, .int .i64 0, .int .i64 0] shOp bs) := by
  have hi : (Tryz.prog.info? 72).map (·.size) = some 23 := by kernel_rfl
  have HI := Lib.hid hi; clear hi
  have HL := Lib.hid hl; clear hl
  go_enter Tryz.func22, Tryz.ntmps22
  go_wp2_with fail
  refine (get_Op a len cap bs _ HL.out (hrd.kept (fun k hk => by simp; omega) (Keeps.refl.alloc _)) hlc hcm).mono ?_
  intro e w' h
  obtain ⟨hh, hb, ⟨ts, cs, P, rfl, I⟩ | ⟨P, rfl⟩⟩ := h.boxed
  · clear h
    obtain ⟨n0, n1, n2, n3_0, s3_1, s3_2, s3_3, s3_4, s3_5, a3_6, l3_6, c3_6, s3_7_0, n3_7_1, a3_7_2, l3_7_2, c3_7_2, n3_7_3, n3_7_4, s3_7_5, s3_7_6, s3_7_7, n3_8, b3_9, n4, n5, n6, rfl⟩ := cells_Op I
    have P := Lib.hid P
    have H2 := Lib.hid hh; clear hh
    have h1 := Lib.hid (all_oneCell_toArray I.oneCell)
    have HROW := Lib.hid (setRow_heap w' w.heap.size _ #[.int .i64 n0, .int .i64 n1, .int .i64 n2, .int .i64 n3_0, .string s3_1, .string s3_2, .string s3_3, .string s3_4, .string s3_5, .slice a3_6 l3_6 c3_6, .string s3_7_0, .int .i64 n3_7_1, .slice a3_7_2 l3_7_2 c3_7_2, .int .i64 n3_7_3, .int .i64 n3_7_4, .string s3_7_5, .string s3_7_6, .string s3_7_7, .int .i64 n3_8, .bool b3_9, .int .i64 n4, .int .i64 n5, .int .i64 n6] _ _ H2.out)
    have hb2 := below_setRow hb #[.int .i64 n0, .int .i64 n1, .int .i64 n2, .int .i64 n3_0, .string s3_1, .string s3_2, .string s3_3, .string s3_4, .string s3_5, .slice a3_6 l3_6 c3_6, .string s3_7_0, .int .i64 n3_7_1, .slice a3_7_2 l3_7_2 c3_7_2, .int .i64 n3_7_3, .int .i64 n3_7_4, .string s3_7_5, .string s3_7_6, .string s3_7_7, .int .i64 n3_8, .bool b3_9, .int .i64 n4, .int .i64 n5, .int .i64 n6]
    have I2 := is_shut #[.int .i64 n0, .int .i64 n1, .int .i64 n2, .int .i64 n3_0, .string s3_1, .string s3_2, .string s3_3, .string s3_4, .string s3_5, .slice a3_6 l3_6 c3_6, .string s3_7_0, .int .i64 n3_7_1, .slice a3_7_2 l3_7_2 c3_7_2, .int .i64 n3_7_3, .int .i64 n3_7_4, .string s3_7_5, .string s3_7_6, .string s3_7_7, .int .i64 n3_8, .bool b3_9, .int .i64 n4, .int .i64 n5, .int .i64 n6] I
    go_wp2_with (refine wpList_store_row rfl 72 _ _ rfl w.heap.size 72 _ #[.int .i64 n0, .int .i64 n1, .int .i64 n2, .int .i64 n3_0, .string s3_1, .string s3_2, .string s3_3, .string s3_4, .string s3_5, .slice a3_6 l3_6 c3_6, .string s3_7_0, .int .i64 n3_7_1, .slice a3_7_2 l3_7_2 c3_7_2, .int .i64 n3_7_3, .int .i64 n3_7_4, .string s3_7_5, .string s3_7_6, .string s3_7_7, .int .i64 n3_8, .bool b3_9, .int .i64 n4, .int .i64 n5, .int .i64 n6] rfl rfl H2.out HI.out rfl h1.out ?_)
    refine bodyPost_ret (results_row_tmp rfl _ _ w.heap.size _ _ (0, 0) _ rfl HROW.out Tryz.underlying72 rfl HI.out) rfl ?_
    exact ⟨hb2, .inl ⟨_, _, P.out, rfl, I2⟩⟩
  · clear h
    have P := Lib.hid P
    have H2 := Lib.hid hh; clear hh
    have h1 : (#[.int .i64 0, .int .i64 0, .int .i64 0, .int .i64 0, .string ByteArray.empty, .string ByteArray.empty, .string ByteArray.empty, .string ByteArray.empty, .string ByteArray.empty, .slice none 0 0, .string ByteArray.empty, .int .i64 0, .slice none 0 0, .int .i64 0, .int .i64 0, .string ByteArray.empty, .string ByteArray.empty, .string ByteArray.empty, .int .i64 0, .bool false, .int .i64 0, .int .i64 0, .int .i64 0] : Array Value).all (·.oneCell') = true := by kernel_rfl
    have h1 := Lib.hid h1
    have HROW := Lib.hid (setRow_heap w' w.heap.size _ #[.int .i64 0, .int .i64 0, .int .i64 0, .int .i64 0, .string ByteArray.empty, .string ByteArray.empty, .string ByteArray.empty, .string ByteArray.empty, .string ByteArray.empty, .slice none 0 0, .string ByteArray.empty, .int .i64 0, .slice none 0 0, .int .i64 0, .int .i64 0, .string ByteArray.empty, .string ByteArray.empty, .string ByteArray.empty, .int .i64 0, .bool false, .int .i64 0, .int .i64 0, .int .i64 0] _ _ H2.out)
    have hb2 := below_setRow hb #[.int .i64 0, .int .i64 0, .int .i64 0, .int .i64 0, .string ByteArray.empty, .string ByteArray.empty, .string ByteArray.empty, .string ByteArray.empty, .string ByteArray.empty, .slice none 0 0, .string ByteArray.empty, .int .i64 0, .slice none 0 0, .int .i64 0, .int .i64 0, .string ByteArray.empty, .string ByteArray.empty, .string ByteArray.empty, .int .i64 0, .bool false, .int .i64 0, .int .i64 0, .int .i64 0]
    go_wp2_with (refine wpList_store_row rfl 72 _ _ rfl w.heap.size 72 _ #[.int .i64 0, .int .i64 0, .int .i64 0, .int .i64 0, .string ByteArray.empty, .string ByteArray.empty, .string ByteArray.empty, .string ByteArray.empty, .string ByteArray.empty, .slice none 0 0, .string ByteArray.empty, .int .i64 0, .slice none 0 0, .int .i64 0, .int .i64 0, .string ByteArray.empty, .string ByteArray.empty, .string ByteArray.empty, .int .i64 0, .bool false, .int .i64 0, .int .i64 0, .int .i64 0] rfl rfl H2.out HI.out rfl h1.out ?_)
    refine bodyPost_ret (results_row_tmp rfl _ _ w.heap.size _ _ (0, 0) _ rfl HROW.out Tryz.underlying72 rfl HI.out) rfl ?_
    exact ⟨hb2, .inr ⟨P.out, rfl⟩⟩

end Go.Proofs.YtbhpbiimfcdgaaaGreat
