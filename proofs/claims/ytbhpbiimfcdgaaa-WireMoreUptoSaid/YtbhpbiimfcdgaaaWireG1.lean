/-
  The program's Get of commands, records and operations, by contract (made by wip/gen_wire.py)
-/
import Derived.Test.YtbhpbiimfcdgaaaWireG
namespace Go.Proofs.Ytbhpbiimfcdgaaa
open Go.RowKit
set_option linter.unusedVariables false

set_option maxRecDepth 100000 in
set_option maxHeartbeats 2000000 in
theorem clo_get_Record (B bb bt bx : Nat) (a : Option Addr) (len cap : Nat) (bs : List UInt8) (w : World) (hB : B ≤ w.heap.size) (hBx : B ≤ bx) (hl : bs.length = len) (hlc : len ≤ cap) (hcm : cap ≤ maxLen) (hrd : RdS w (· < B) a (cb bs))
    (hb : w.cell? ⟨bb, 0, none⟩ = some (.slice a len cap)) (ht : w.cell? ⟨bt, 0, none⟩ = some (.func (.func 50) #[] #[])) (hx : w.heap[bx]? = some (.cells #[.int .i64 0, .int .i64 0, .int .i64 0, .int .i64 0, .int .i64 0, .int .i64 0, .slice none 0 0, .slice none 0 0, .string ByteArray.empty, .int .i64 0, .int .i64 0, .int .i64 0, .slice none 0 0, .slice none 0 0, .string ByteArray.empty] 65 (0, 0))) :
    Calls Try.prog 109 #[.pointer (some ⟨bb, 0, none⟩), .pointer (some ⟨bt, 0, none⟩), .pointer (some ⟨bx, 0, none⟩)] w (CloPost w bx 65 shRecord bs) := by
  have hi : (Try.prog.info? 65).map (·.size) = some 15 := by kernel_rfl
  have HI := Lib.hid hi; clear hi
  have hlt := lt_of_block hx
  have hRe : Re (w.alloc (.cells #[.slice a len cap] 142)) w.heap.size B bs := by
    subst hl
    exact ⟨hB, a, cap, heap_alloc_new w _, hrd.kept (fun _ h => h) (Keeps.refl.alloc _), hlc, hcm⟩
  have HX := Lib.hid hx; clear hx
  have HL := Lib.hid hl; clear hl
  have ht2 : (w.alloc (.cells #[.slice a len cap] 142)).cell? ⟨bt, 0, none⟩ = some (.func (.func 50) #[] #[]) := (Keeps.refl (S := fun _ => True)).alloc _ |>.cell ht trivial
  clear ht
  go_enter Try.func109, Try.ntmps109
  go_wp2_with fail
  refine (r_record w.heap.size bs _ hRe).mono ?_
  rintro e w1 ⟨K1, ⟨ts, r, cs, P, rfl, I, R⟩ | ⟨P, rfl⟩⟩
  case inr => exact ⟨rfl, keeps_box K1, .inr ⟨fun ts h => by (rw [P] at h; cases h), rfl⟩⟩
  obtain ⟨n0, n1, n2, n3_0, n3_1, n3_2, a3_3_0, l3_3_0, c3_3_0, a3_3_1, l3_3_1, c3_3_1, s3_4, n4, n5_0, n5_1, a5_2_0, l5_2_0, c5_2_0, a5_2_1, l5_2_1, c5_2_1, s5_3, rfl⟩ := cells_Record I
  simp only [agg]
  have P := Lib.hid P
  have HX1 := Lib.hid ((keeps_box (S := fun _ => True) K1).row HX.out trivial)
  have h1 := Lib.hid (all_oneCell_toArray I.oneCell)
  have KK := keeps_setRow (keeps_box (S := Off bx) K1) #[.int .i64 n0, .int .i64 n1, .int .i64 n2, .int .i64 n3_0, .int .i64 n3_1, .int .i64 n3_2, .slice a3_3_0 l3_3_0 c3_3_0, .slice a3_3_1 l3_3_1 c3_3_1, .string s3_4, .int .i64 n4, .int .i64 n5_0, .int .i64 n5_1, .slice a5_2_0 l5_2_0 c5_2_0, .slice a5_2_1 l5_2_1 c5_2_1, .string s5_3]
  have HROW := Lib.hid (setRow_heap w1 bx _ #[.int .i64 n0, .int .i64 n1, .int .i64 n2, .int .i64 n3_0, .int .i64 n3_1, .int .i64 n3_2, .slice a3_3_0 l3_3_0 c3_3_0, .slice a3_3_1 l3_3_1 c3_3_1, .string s3_4, .int .i64 n4, .int .i64 n5_0, .int .i64 n5_1, .slice a5_2_0 l5_2_0 c5_2_0, .slice a5_2_1 l5_2_1 c5_2_1, .string s5_3] _ _ HX1.out)
  have R2 := R.setRow' (g := bx) (by omega) hBx #[.int .i64 n0, .int .i64 n1, .int .i64 n2, .int .i64 n3_0, .int .i64 n3_1, .int .i64 n3_2, .slice a3_3_0 l3_3_0 c3_3_0, .slice a3_3_1 l3_3_1 c3_3_1, .string s3_4, .int .i64 n4, .int .i64 n5_0, .int .i64 n5_1, .slice a5_2_0 l5_2_0 c5_2_0, .slice a5_2_1 l5_2_1 c5_2_1, .string s5_3]
  have I2 := I.keep (S' := New w.heap.size (w1.setRow bx #[.int .i64 n0, .int .i64 n1, .int .i64 n2, .int .i64 n3_0, .int .i64 n3_1, .int .i64 n3_2, .slice a3_3_0 l3_3_0 c3_3_0, .slice a3_3_1 l3_3_1 c3_3_1, .string s3_4, .int .i64 n4, .int .i64 n5_0, .int .i64 n5_1, .slice a5_2_0 l5_2_0 c5_2_0, .slice a5_2_1 l5_2_1 c5_2_1, .string s5_3]).heap.size) (fun k hk => ⟨by have := hk.1; simp at this; omega, by simpa using hk.2⟩) ((⟨rfl, rfl, rfl, by simp, fun k _ hk => setRow_other w1 bx k _ (by have := hk.1; simp at this; omega)⟩ : Keeps _ w1 (w1.setRow bx #[.int .i64 n0, .int .i64 n1, .int .i64 n2, .int .i64 n3_0, .int .i64 n3_1, .int .i64 n3_2, .slice a3_3_0 l3_3_0 c3_3_0, .slice a3_3_1 l3_3_1 c3_3_1, .string s3_4, .int .i64 n4, .int .i64 n5_0, .int .i64 n5_1, .slice a5_2_0 l5_2_0 c5_2_0, .slice a5_2_1 l5_2_1 c5_2_1, .string s5_3])))
  cases r with
  | nil =>
    go_wp2_with (refine wpList_store_row rfl 65 _ _ rfl bx 65 _ #[.int .i64 n0, .int .i64 n1, .int .i64 n2, .int .i64 n3_0, .int .i64 n3_1, .int .i64 n3_2, .slice a3_3_0 l3_3_0 c3_3_0, .slice a3_3_1 l3_3_1 c3_3_1, .string s3_4, .int .i64 n4, .int .i64 n5_0, .int .i64 n5_1, .slice a5_2_0 l5_2_0 c5_2_0, .slice a5_2_1 l5_2_1 c5_2_1, .string s5_3] rfl rfl HX1.out HI.out rfl h1.out ?_)
    refine (end_none w.heap.size _ R2).mono ?_
    rintro e w2 ⟨rfl, rfl⟩
    go_wp2_with fail
    go_end0
    exact ⟨KK, .inl ⟨_, _, P.out, rfl, HROW.out, I2⟩⟩
  | cons b r =>
    go_wp2_with (refine wpList_store_row rfl 65 _ _ rfl bx 65 _ #[.int .i64 n0, .int .i64 n1, .int .i64 n2, .int .i64 n3_0, .int .i64 n3_1, .int .i64 n3_2, .slice a3_3_0 l3_3_0 c3_3_0, .slice a3_3_1 l3_3_1 c3_3_1, .string s3_4, .int .i64 n4, .int .i64 n5_0, .int .i64 n5_1, .slice a5_2_0 l5_2_0 c5_2_0, .slice a5_2_1 l5_2_1 c5_2_1, .string s5_3] rfl rfl HX1.out HI.out rfl h1.out ?_)
    refine (end_some w.heap.size _ _ R2 (by simp)).mono ?_
    rintro e w2 ⟨rfl, rfl⟩
    exact ⟨rfl, KK, .inr ⟨fun ts h => by (rw [P.out] at h; simp at h), rfl⟩⟩

set_option maxRecDepth 100000 in
set_option maxHeartbeats 2000000 in
theorem get_Record (a : Option Addr) (len cap : Nat) (bs : List UInt8) (w : World) (hl : bs.length = len) (hrd : RdS w (· < w.heap.size) a (cb bs)) (hlc : len ≤ cap) (hcm : cap ≤ maxLen) :
    Calls Try.prog 49 #[.slice a len cap, .func (.func 50) #[] #[]] w (GetPost w #[.int .i64 0, .int .i64 0, .int .i64 0, .int .i64 0, .int .i64 0, .int .i64 0, .slice none 0 0, .slice none 0 0, .string ByteArray.empty, .int .i64 0, .int .i64 0, .int .i64 0, .slice none 0 0, .slice none 0 0, .string ByteArray.empty] shRecord bs) := by
  have hmf : ∀ (fn : Fn) (first cap : Array Value) (w : World), (Instr.makeFunc fn first cap).run Try.prog w = .ok (.func fn first cap) w := fun _ _ _ _ => rfl
  have hcore := get_core w a len cap bs 65 #[.int .i64 0, .int .i64 0, .int .i64 0, .int .i64 0, .int .i64 0, .int .i64 0, .slice none 0 0, .slice none 0 0, .string ByteArray.empty, .int .i64 0, .int .i64 0, .int .i64 0, .slice none 0 0, .slice none 0 0, .string ByteArray.empty] shRecord 50 109 110 (fun _ _ => rfl) hl hrd hlc hcm
    (fun bb bt bx w6 hz hbx hr hb ht hx => clo_get_Record w.heap.size bb bt bx a len cap bs w6 hz hbx hl hlc hcm hr hb ht hx)
  have hi : (Try.prog.info? 65).map (·.size) = some 15 := by kernel_rfl
  have HI := Lib.hid hi; clear hi
  have HC := Lib.hid hcore; clear hcore
  have HL := Lib.hid hl; clear hl
  go_enter Try.func49, Try.ntmps49
  go_wp2_with fail
  refine HC.out.mono ?_
  rintro e w' ⟨c, rfl, hb, h2, h4, ⟨rfl, ts, cs, P, h3, I⟩ | ⟨rfl, P⟩⟩
  · obtain ⟨n0, n1, n2, n3_0, n3_1, n3_2, a3_3_0, l3_3_0, c3_3_0, a3_3_1, l3_3_1, c3_3_1, s3_4, n4, n5_0, n5_1, a5_2_0, l5_2_0, c5_2_0, a5_2_1, l5_2_1, c5_2_1, s5_3, rfl⟩ := cells_Record I
    have P := Lib.hid P
    have H2 := Lib.hid h2; clear h2 h4
    have hrng := Lib.hid (box_range h3); clear h3
    have h1 := Lib.hid (all_oneCell_toArray I.oneCell)
    have HROW := Lib.hid (setRow_heap w' (w.heap.size + 1 + 1) _ #[.int .i64 n0, .int .i64 n1, .int .i64 n2, .int .i64 n3_0, .int .i64 n3_1, .int .i64 n3_2, .slice a3_3_0 l3_3_0 c3_3_0, .slice a3_3_1 l3_3_1 c3_3_1, .string s3_4, .int .i64 n4, .int .i64 n5_0, .int .i64 n5_1, .slice a5_2_0 l5_2_0 c5_2_0, .slice a5_2_1 l5_2_1 c5_2_1, .string s5_3] _ _ H2.out)
    have hb2 : Below w.heap.size w (w'.setRow (w.heap.size + 1 + 1) #[.int .i64 n0, .int .i64 n1, .int .i64 n2, .int .i64 n3_0, .int .i64 n3_1, .int .i64 n3_2, .slice a3_3_0 l3_3_0 c3_3_0, .slice a3_3_1 l3_3_1 c3_3_1, .string s3_4, .int .i64 n4, .int .i64 n5_0, .int .i64 n5_1, .slice a5_2_0 l5_2_0 c5_2_0, .slice a5_2_1 l5_2_1 c5_2_1, .string s5_3]) := hb.trans ⟨rfl, rfl, rfl, by simp, fun k hk => setRow_other w' _ k _ (by omega)⟩
    have I2 := I.keep (S' := New w.heap.size (w'.setRow (w.heap.size + 1 + 1) #[.int .i64 n0, .int .i64 n1, .int .i64 n2, .int .i64 n3_0, .int .i64 n3_1, .int .i64 n3_2, .slice a3_3_0 l3_3_0 c3_3_0, .slice a3_3_1 l3_3_1 c3_3_1, .string s3_4, .int .i64 n4, .int .i64 n5_0, .int .i64 n5_1, .slice a5_2_0 l5_2_0 c5_2_0, .slice a5_2_1 l5_2_1 c5_2_1, .string s5_3]).heap.size) (fun k hk => ⟨by have := hk.1; omega, by simpa using hk.2⟩) ((⟨rfl, rfl, rfl, by simp, fun k _ hk => setRow_other w' _ k _ (by have := hk.1; omega)⟩ : Keeps _ w' (w'.setRow (w.heap.size + 1 + 1) #[.int .i64 n0, .int .i64 n1, .int .i64 n2, .int .i64 n3_0, .int .i64 n3_1, .int .i64 n3_2, .slice a3_3_0 l3_3_0 c3_3_0, .slice a3_3_1 l3_3_1 c3_3_1, .string s3_4, .int .i64 n4, .int .i64 n5_0, .int .i64 n5_1, .slice a5_2_0 l5_2_0 c5_2_0, .slice a5_2_1 l5_2_1 c5_2_1, .string s5_3])))
    go_wp2_with (first
      | (refine wpList_store_row rfl 65 _ _ rfl (w.heap.size + 1 + 1) 65 _ #[.int .i64 n0, .int .i64 n1, .int .i64 n2, .int .i64 n3_0, .int .i64 n3_1, .int .i64 n3_2, .slice a3_3_0 l3_3_0 c3_3_0, .slice a3_3_1 l3_3_1 c3_3_1, .string s3_4, .int .i64 n4, .int .i64 n5_0, .int .i64 n5_1, .slice a5_2_0 l5_2_0 c5_2_0, .slice a5_2_1 l5_2_1 c5_2_1, .string s5_3] rfl rfl H2.out HI.out rfl h1.out ?_)
      | (refine wpList_load_mid rfl 65 _ rfl (w.heap.size + 1 + 1 + 1) 0 rfl _ _ hrng.out Try.underlying65 rfl HI.out ?_))
    refine bodyPost_ret (results_row_tmp rfl _ _ (w.heap.size + 1 + 1) _ _ (0, 0) _ rfl HROW.out Try.underlying65 rfl HI.out) rfl ?_
    exact ⟨hb2, .inl ⟨_, _, P.out, rfl, I2⟩⟩
  · have P := Lib.hid P
    have H2 := Lib.hid h2; clear h2
    have hrng := Lib.hid (box_range (cs := [.int .i64 0, .int .i64 0, .int .i64 0, .int .i64 0, .int .i64 0, .int .i64 0, .slice none 0 0, .slice none 0 0, .string ByteArray.empty, .int .i64 0, .int .i64 0, .int .i64 0, .slice none 0 0, .slice none 0 0, .string ByteArray.empty]) h4); clear h4
    have h1 : (#[.int .i64 0, .int .i64 0, .int .i64 0, .int .i64 0, .int .i64 0, .int .i64 0, .slice none 0 0, .slice none 0 0, .string ByteArray.empty, .int .i64 0, .int .i64 0, .int .i64 0, .slice none 0 0, .slice none 0 0, .string ByteArray.empty] : Array Value).all (·.oneCell') = true := by kernel_rfl
    have h1 := Lib.hid h1
    have HROW := Lib.hid (setRow_heap w' (w.heap.size + 1 + 1) _ #[.int .i64 0, .int .i64 0, .int .i64 0, .int .i64 0, .int .i64 0, .int .i64 0, .slice none 0 0, .slice none 0 0, .string ByteArray.empty, .int .i64 0, .int .i64 0, .int .i64 0, .slice none 0 0, .slice none 0 0, .string ByteArray.empty] _ _ H2.out)
    have hb2 : Below w.heap.size w (w'.setRow (w.heap.size + 1 + 1) #[.int .i64 0, .int .i64 0, .int .i64 0, .int .i64 0, .int .i64 0, .int .i64 0, .slice none 0 0, .slice none 0 0, .string ByteArray.empty, .int .i64 0, .int .i64 0, .int .i64 0, .slice none 0 0, .slice none 0 0, .string ByteArray.empty]) := hb.trans ⟨rfl, rfl, rfl, by simp, fun k hk => setRow_other w' _ k _ (by omega)⟩
    go_wp2_with (first
      | (refine wpList_store_row rfl 65 _ _ rfl (w.heap.size + 1 + 1) 65 _ #[.int .i64 0, .int .i64 0, .int .i64 0, .int .i64 0, .int .i64 0, .int .i64 0, .slice none 0 0, .slice none 0 0, .string ByteArray.empty, .int .i64 0, .int .i64 0, .int .i64 0, .slice none 0 0, .slice none 0 0, .string ByteArray.empty] rfl rfl H2.out HI.out rfl h1.out ?_)
      | (refine wpList_load_mid rfl 65 _ rfl (w.heap.size + 1 + 1 + 1 + 1) 0 rfl _ _ hrng.out Try.underlying65 rfl HI.out ?_))
    refine bodyPost_ret (results_row_tmp rfl _ _ (w.heap.size + 1 + 1) _ _ (0, 0) _ rfl HROW.out Try.underlying65 rfl HI.out) rfl ?_
    exact ⟨hb2, .inr ⟨P.out, rfl⟩⟩

set_option maxRecDepth 100000 in
set_option maxHeartbeats 2000000 in
theorem Get_Record (a : Option Addr) (len cap : Nat) (bs : List UInt8) (w : World) (hl : bs.length = len) (hrd : RdS w (· < w.heap.size) a (cb bs)) (hlc : len ≤ cap) (hcm : cap ≤ maxLen) :
    Calls Try.prog 24 #[.slice a len cap] w (GetPost w #[.int .i64 0, .int .i64 0, .int .i64 0, .int .i64 0, .int .i64 0, .int .i64 0, .slice none 0 0, .slice none 0 0, .string ByteArray.empty, .int .i64 0, .int .i64 0, .int .i64 0, .slice none 0 0, .slice none 0 0, .string ByteArray.empty] shRecord bs) := by
  have hi : (Try.prog.info? 65).map (·.size) = some 15 := by kernel_rfl
  have HI := Lib.hid hi; clear hi
  have HL := Lib.hid hl; clear hl
  go_enter Try.func24, Try.ntmps24
  go_wp2_with fail
  refine (get_Record a len cap bs _ HL.out (hrd.kept (fun k hk => by simp; omega) (Keeps.refl.alloc _)) hlc hcm).mono ?_
  intro e w' h
  obtain ⟨hh, hb, ⟨ts, cs, P, rfl, I⟩ | ⟨P, rfl⟩⟩ := h.boxed
  · clear h
    obtain ⟨n0, n1, n2, n3_0, n3_1, n3_2, a3_3_0, l3_3_0, c3_3_0, a3_3_1, l3_3_1, c3_3_1, s3_4, n4, n5_0, n5_1, a5_2_0, l5_2_0, c5_2_0, a5_2_1, l5_2_1, c5_2_1, s5_3, rfl⟩ := cells_Record I
    have P := Lib.hid P
    have H2 := Lib.hid hh; clear hh
    have h1 := Lib.hid (all_oneCell_toArray I.oneCell)
    have HROW := Lib.hid (setRow_heap w' w.heap.size _ #[.int .i64 n0, .int .i64 n1, .int .i64 n2, .int .i64 n3_0, .int .i64 n3_1, .int .i64 n3_2, .slice a3_3_0 l3_3_0 c3_3_0, .slice a3_3_1 l3_3_1 c3_3_1, .string s3_4, .int .i64 n4, .int .i64 n5_0, .int .i64 n5_1, .slice a5_2_0 l5_2_0 c5_2_0, .slice a5_2_1 l5_2_1 c5_2_1, .string s5_3] _ _ H2.out)
    have hb2 := below_setRow hb #[.int .i64 n0, .int .i64 n1, .int .i64 n2, .int .i64 n3_0, .int .i64 n3_1, .int .i64 n3_2, .slice a3_3_0 l3_3_0 c3_3_0, .slice a3_3_1 l3_3_1 c3_3_1, .string s3_4, .int .i64 n4, .int .i64 n5_0, .int .i64 n5_1, .slice a5_2_0 l5_2_0 c5_2_0, .slice a5_2_1 l5_2_1 c5_2_1, .string s5_3]
    have I2 := is_shut #[.int .i64 n0, .int .i64 n1, .int .i64 n2, .int .i64 n3_0, .int .i64 n3_1, .int .i64 n3_2, .slice a3_3_0 l3_3_0 c3_3_0, .slice a3_3_1 l3_3_1 c3_3_1, .string s3_4, .int .i64 n4, .int .i64 n5_0, .int .i64 n5_1, .slice a5_2_0 l5_2_0 c5_2_0, .slice a5_2_1 l5_2_1 c5_2_1, .string s5_3] I
    go_wp2_with (refine wpList_store_row rfl 65 _ _ rfl w.heap.size 65 _ #[.int .i64 n0, .int .i64 n1, .int .i64 n2, .int .i64 n3_0, .int .i64 n3_1, .int .i64 n3_2, .slice a3_3_0 l3_3_0 c3_3_0, .slice a3_3_1 l3_3_1 c3_3_1, .string s3_4, .int .i64 n4, .int .i64 n5_0, .int .i64 n5_1, .slice a5_2_0 l5_2_0 c5_2_0, .slice a5_2_1 l5_2_1 c5_2_1, .string s5_3] rfl rfl H2.out HI.out rfl h1.out ?_)
    refine bodyPost_ret (results_row_tmp rfl _ _ w.heap.size _ _ (0, 0) _ rfl HROW.out Try.underlying65 rfl HI.out) rfl ?_
    exact ⟨hb2, .inl ⟨_, _, P.out, rfl, I2⟩⟩
  · clear h
    have P := Lib.hid P
    have H2 := Lib.hid hh; clear hh
    have h1 : (#[.int .i64 0, .int .i64 0, .int .i64 0, .int .i64 0, .int .i64 0, .int .i64 0, .slice none 0 0, .slice none 0 0, .string ByteArray.empty, .int .i64 0, .int .i64 0, .int .i64 0, .slice none 0 0, .slice none 0 0, .string ByteArray.empty] : Array Value).all (·.oneCell') = true := by kernel_rfl
    have h1 := Lib.hid h1
    have HROW := Lib.hid (setRow_heap w' w.heap.size _ #[.int .i64 0, .int .i64 0, .int .i64 0, .int .i64 0, .int .i64 0, .int .i64 0, .slice none 0 0, .slice none 0 0, .string ByteArray.empty, .int .i64 0, .int .i64 0, .int .i64 0, .slice none 0 0, .slice none 0 0, .string ByteArray.empty] _ _ H2.out)
    have hb2 := below_setRow hb #[.int .i64 0, .int .i64 0, .int .i64 0, .int .i64 0, .int .i64 0, .int .i64 0, .slice none 0 0, .slice none 0 0, .string ByteArray.empty, .int .i64 0, .int .i64 0, .int .i64 0, .slice none 0 0, .slice none 0 0, .string ByteArray.empty]
    go_wp2_with (refine wpList_store_row rfl 65 _ _ rfl w.heap.size 65 _ #[.int .i64 0, .int .i64 0, .int .i64 0, .int .i64 0, .int .i64 0, .int .i64 0, .slice none 0 0, .slice none 0 0, .string ByteArray.empty, .int .i64 0, .int .i64 0, .int .i64 0, .slice none 0 0, .slice none 0 0, .string ByteArray.empty] rfl rfl H2.out HI.out rfl h1.out ?_)
    refine bodyPost_ret (results_row_tmp rfl _ _ w.heap.size _ _ (0, 0) _ rfl HROW.out Try.underlying65 rfl HI.out) rfl ?_
    exact ⟨hb2, .inr ⟨P.out, rfl⟩⟩

set_option maxRecDepth 100000 in
set_option maxHeartbeats 2000000 in
theorem clo_get_Command (B bb bt bx : Nat) (a : Option Addr) (len cap : Nat) (bs : List UInt8) (w : World) (hB : B ≤ w.heap.size) (hBx : B ≤ bx) (hl : bs.length = len) (hlc : len ≤ cap) (hcm : cap ≤ maxLen) (hrd : RdS w (· < B) a (cb bs))
    (hb : w.cell? ⟨bb, 0, none⟩ = some (.slice a len cap)) (ht : w.cell? ⟨bt, 0, none⟩ = some (.func (.func 39) #[] #[])) (hx : w.heap[bx]? = some (.cells #[.int .i64 0, .string ByteArray.empty, .string ByteArray.empty, .string ByteArray.empty, .string ByteArray.empty, .string ByteArray.empty, .slice none 0 0, .string ByteArray.empty, .int .i64 0, .slice none 0 0, .int .i64 0, .int .i64 0, .string ByteArray.empty, .string ByteArray.empty, .string ByteArray.empty, .int .i64 0, .bool false] 30 (0, 0))) :
    Calls Try.prog 78 #[.pointer (some ⟨bb, 0, none⟩), .pointer (some ⟨bt, 0, none⟩), .pointer (some ⟨bx, 0, none⟩)] w (CloPost w bx 30 shCommand bs) := by
  have hi : (Try.prog.info? 30).map (·.size) = some 17 := by kernel_rfl
  have HI := Lib.hid hi; clear hi
  have hlt := lt_of_block hx
  have hRe : Re (w.alloc (.cells #[.slice a len cap] 142)) w.heap.size B bs := by
    subst hl
    exact ⟨hB, a, cap, heap_alloc_new w _, hrd.kept (fun _ h => h) (Keeps.refl.alloc _), hlc, hcm⟩
  have HX := Lib.hid hx; clear hx
  have HL := Lib.hid hl; clear hl
  have ht2 : (w.alloc (.cells #[.slice a len cap] 142)).cell? ⟨bt, 0, none⟩ = some (.func (.func 39) #[] #[]) := (Keeps.refl (S := fun _ => True)).alloc _ |>.cell ht trivial
  clear ht
  go_enter Try.func78, Try.ntmps78
  go_wp2_with fail
  refine (r_command w.heap.size bs _ hRe).mono ?_
  rintro e w1 ⟨K1, ⟨ts, r, cs, P, rfl, I, R⟩ | ⟨P, rfl⟩⟩
  case inr => exact ⟨rfl, keeps_box K1, .inr ⟨fun ts h => by (rw [P] at h; cases h), rfl⟩⟩
  obtain ⟨n0, s1, s2, s3, s4, s5, a6, l6, c6, s7_0, n7_1, a7_2, l7_2, c7_2, n7_3, n7_4, s7_5, s7_6, s7_7, n8, b9, rfl⟩ := cells_Command I
  simp only [agg]
  have P := Lib.hid P
  have HX1 := Lib.hid ((keeps_box (S := fun _ => True) K1).row HX.out trivial)
  have h1 := Lib.hid (all_oneCell_toArray I.oneCell)
  have KK := keeps_setRow (keeps_box (S := Off bx) K1) #[.int .i64 n0, .string s1, .string s2, .string s3, .string s4, .string s5, .slice a6 l6 c6, .string s7_0, .int .i64 n7_1, .slice a7_2 l7_2 c7_2, .int .i64 n7_3, .int .i64 n7_4, .string s7_5, .string s7_6, .string s7_7, .int .i64 n8, .bool b9]
  have HROW := Lib.hid (setRow_heap w1 bx _ #[.int .i64 n0, .string s1, .string s2, .string s3, .string s4, .string s5, .slice a6 l6 c6, .string s7_0, .int .i64 n7_1, .slice a7_2 l7_2 c7_2, .int .i64 n7_3, .int .i64 n7_4, .string s7_5, .string s7_6, .string s7_7, .int .i64 n8, .bool b9] _ _ HX1.out)
  have R2 := R.setRow' (g := bx) (by omega) hBx #[.int .i64 n0, .string s1, .string s2, .string s3, .string s4, .string s5, .slice a6 l6 c6, .string s7_0, .int .i64 n7_1, .slice a7_2 l7_2 c7_2, .int .i64 n7_3, .int .i64 n7_4, .string s7_5, .string s7_6, .string s7_7, .int .i64 n8, .bool b9]
  have I2 := I.keep (S' := New w.heap.size (w1.setRow bx #[.int .i64 n0, .string s1, .string s2, .string s3, .string s4, .string s5, .slice a6 l6 c6, .string s7_0, .int .i64 n7_1, .slice a7_2 l7_2 c7_2, .int .i64 n7_3, .int .i64 n7_4, .string s7_5, .string s7_6, .string s7_7, .int .i64 n8, .bool b9]).heap.size) (fun k hk => ⟨by have := hk.1; simp at this; omega, by simpa using hk.2⟩) ((⟨rfl, rfl, rfl, by simp, fun k _ hk => setRow_other w1 bx k _ (by have := hk.1; simp at this; omega)⟩ : Keeps _ w1 (w1.setRow bx #[.int .i64 n0, .string s1, .string s2, .string s3, .string s4, .string s5, .slice a6 l6 c6, .string s7_0, .int .i64 n7_1, .slice a7_2 l7_2 c7_2, .int .i64 n7_3, .int .i64 n7_4, .string s7_5, .string s7_6, .string s7_7, .int .i64 n8, .bool b9])))
  cases r with
  | nil =>
    go_wp2_with (refine wpList_store_row rfl 30 _ _ rfl bx 30 _ #[.int .i64 n0, .string s1, .string s2, .string s3, .string s4, .string s5, .slice a6 l6 c6, .string s7_0, .int .i64 n7_1, .slice a7_2 l7_2 c7_2, .int .i64 n7_3, .int .i64 n7_4, .string s7_5, .string s7_6, .string s7_7, .int .i64 n8, .bool b9] rfl rfl HX1.out HI.out rfl h1.out ?_)
    refine (end_none w.heap.size _ R2).mono ?_
    rintro e w2 ⟨rfl, rfl⟩
    go_wp2_with fail
    go_end0
    exact ⟨KK, .inl ⟨_, _, P.out, rfl, HROW.out, I2⟩⟩
  | cons b r =>
    go_wp2_with (refine wpList_store_row rfl 30 _ _ rfl bx 30 _ #[.int .i64 n0, .string s1, .string s2, .string s3, .string s4, .string s5, .slice a6 l6 c6, .string s7_0, .int .i64 n7_1, .slice a7_2 l7_2 c7_2, .int .i64 n7_3, .int .i64 n7_4, .string s7_5, .string s7_6, .string s7_7, .int .i64 n8, .bool b9] rfl rfl HX1.out HI.out rfl h1.out ?_)
    refine (end_some w.heap.size _ _ R2 (by simp)).mono ?_
    rintro e w2 ⟨rfl, rfl⟩
    exact ⟨rfl, KK, .inr ⟨fun ts h => by (rw [P.out] at h; simp at h), rfl⟩⟩

set_option maxRecDepth 100000 in
set_option maxHeartbeats 2000000 in
theorem get_Command (a : Option Addr) (len cap : Nat) (bs : List UInt8) (w : World) (hl : bs.length = len) (hrd : RdS w (· < w.heap.size) a (cb bs)) (hlc : len ≤ cap) (hcm : cap ≤ maxLen) :
    Calls Try.prog 38 #[.slice a len cap, .func (.func 39) #[] #[]] w (GetPost w #[.int .i64 0, .string ByteArray.empty, .string ByteArray.empty, .string ByteArray.empty, .string ByteArray.empty, .string ByteArray.empty, .slice none 0 0, .string ByteArray.empty, .int .i64 0, .slice none 0 0, .int .i64 0, .int .i64 0, .string ByteArray.empty, .string ByteArray.empty, .string ByteArray.empty, .int .i64 0, .bool false] shCommand bs) := by
  have hmf : ∀ (fn : Fn) (first cap : Array Value) (w : World), (Instr.makeFunc fn first cap).run Try.prog w = .ok (.func fn first cap) w := fun _ _ _ _ => rfl
  have hcore := get_core w a len cap bs 30 #[.int .i64 0, .string ByteArray.empty, .string ByteArray.empty, .string ByteArray.empty, .string ByteArray.empty, .string ByteArray.empty, .slice none 0 0, .string ByteArray.empty, .int .i64 0, .slice none 0 0, .int .i64 0, .int .i64 0, .string ByteArray.empty, .string ByteArray.empty, .string ByteArray.empty, .int .i64 0, .bool false] shCommand 39 78 98 (fun _ _ => rfl) hl hrd hlc hcm
    (fun bb bt bx w6 hz hbx hr hb ht hx => clo_get_Command w.heap.size bb bt bx a len cap bs w6 hz hbx hl hlc hcm hr hb ht hx)
  have hi : (Try.prog.info? 30).map (·.size) = some 17 := by kernel_rfl
  have HI := Lib.hid hi; clear hi
  have HC := Lib.hid hcore; clear hcore
  have HL := Lib.hid hl; clear hl
  go_enter Try.func38, Try.ntmps38
  go_wp2_with fail
  refine HC.out.mono ?_
  rintro e w' ⟨c, rfl, hb, h2, h4, ⟨rfl, ts, cs, P, h3, I⟩ | ⟨rfl, P⟩⟩
  · obtain ⟨n0, s1, s2, s3, s4, s5, a6, l6, c6, s7_0, n7_1, a7_2, l7_2, c7_2, n7_3, n7_4, s7_5, s7_6, s7_7, n8, b9, rfl⟩ := cells_Command I
    have P := Lib.hid P
    have H2 := Lib.hid h2; clear h2 h4
    have hrng := Lib.hid (box_range h3); clear h3
    have h1 := Lib.hid (all_oneCell_toArray I.oneCell)
    have HROW := Lib.hid (setRow_heap w' (w.heap.size + 1 + 1) _ #[.int .i64 n0, .string s1, .string s2, .string s3, .string s4, .string s5, .slice a6 l6 c6, .string s7_0, .int .i64 n7_1, .slice a7_2 l7_2 c7_2, .int .i64 n7_3, .int .i64 n7_4, .string s7_5, .string s7_6, .string s7_7, .int .i64 n8, .bool b9] _ _ H2.out)
    have hb2 : Below w.heap.size w (w'.setRow (w.heap.size + 1 + 1) #[.int .i64 n0, .string s1, .string s2, .string s3, .string s4, .string s5, .slice a6 l6 c6, .string s7_0, .int .i64 n7_1, .slice a7_2 l7_2 c7_2, .int .i64 n7_3, .int .i64 n7_4, .string s7_5, .string s7_6, .string s7_7, .int .i64 n8, .bool b9]) := hb.trans ⟨rfl, rfl, rfl, by simp, fun k hk => setRow_other w' _ k _ (by omega)⟩
    have I2 := I.keep (S' := New w.heap.size (w'.setRow (w.heap.size + 1 + 1) #[.int .i64 n0, .string s1, .string s2, .string s3, .string s4, .string s5, .slice a6 l6 c6, .string s7_0, .int .i64 n7_1, .slice a7_2 l7_2 c7_2, .int .i64 n7_3, .int .i64 n7_4, .string s7_5, .string s7_6, .string s7_7, .int .i64 n8, .bool b9]).heap.size) (fun k hk => ⟨by have := hk.1; omega, by simpa using hk.2⟩) ((⟨rfl, rfl, rfl, by simp, fun k _ hk => setRow_other w' _ k _ (by have := hk.1; omega)⟩ : Keeps _ w' (w'.setRow (w.heap.size + 1 + 1) #[.int .i64 n0, .string s1, .string s2, .string s3, .string s4, .string s5, .slice a6 l6 c6, .string s7_0, .int .i64 n7_1, .slice a7_2 l7_2 c7_2, .int .i64 n7_3, .int .i64 n7_4, .string s7_5, .string s7_6, .string s7_7, .int .i64 n8, .bool b9])))
    go_wp2_with (first
      | (refine wpList_store_row rfl 30 _ _ rfl (w.heap.size + 1 + 1) 30 _ #[.int .i64 n0, .string s1, .string s2, .string s3, .string s4, .string s5, .slice a6 l6 c6, .string s7_0, .int .i64 n7_1, .slice a7_2 l7_2 c7_2, .int .i64 n7_3, .int .i64 n7_4, .string s7_5, .string s7_6, .string s7_7, .int .i64 n8, .bool b9] rfl rfl H2.out HI.out rfl h1.out ?_)
      | (refine wpList_load_mid rfl 30 _ rfl (w.heap.size + 1 + 1 + 1) 0 rfl _ _ hrng.out Try.underlying30 rfl HI.out ?_))
    refine bodyPost_ret (results_row_tmp rfl _ _ (w.heap.size + 1 + 1) _ _ (0, 0) _ rfl HROW.out Try.underlying30 rfl HI.out) rfl ?_
    exact ⟨hb2, .inl ⟨_, _, P.out, rfl, I2⟩⟩
  · have P := Lib.hid P
    have H2 := Lib.hid h2; clear h2
    have hrng := Lib.hid (box_range (cs := [.int .i64 0, .string ByteArray.empty, .string ByteArray.empty, .string ByteArray.empty, .string ByteArray.empty, .string ByteArray.empty, .slice none 0 0, .string ByteArray.empty, .int .i64 0, .slice none 0 0, .int .i64 0, .int .i64 0, .string ByteArray.empty, .string ByteArray.empty, .string ByteArray.empty, .int .i64 0, .bool false]) h4); clear h4
    have h1 : (#[.int .i64 0, .string ByteArray.empty, .string ByteArray.empty, .string ByteArray.empty, .string ByteArray.empty, .string ByteArray.empty, .slice none 0 0, .string ByteArray.empty, .int .i64 0, .slice none 0 0, .int .i64 0, .int .i64 0, .string ByteArray.empty, .string ByteArray.empty, .string ByteArray.empty, .int .i64 0, .bool false] : Array Value).all (·.oneCell') = true := by kernel_rfl
    have h1 := Lib.hid h1
    have HROW := Lib.hid (setRow_heap w' (w.heap.size + 1 + 1) _ #[.int .i64 0, .string ByteArray.empty, .string ByteArray.empty, .string ByteArray.empty, .string ByteArray.empty, .string ByteArray.empty, .slice none 0 0, .string ByteArray.empty, .int .i64 0, .slice none 0 0, .int .i64 0, .int .i64 0, .string ByteArray.empty, .string ByteArray.empty, .string ByteArray.empty, .int .i64 0, .bool false] _ _ H2.out)
    have hb2 : Below w.heap.size w (w'.setRow (w.heap.size + 1 + 1) #[.int .i64 0, .string ByteArray.empty, .string ByteArray.empty, .string ByteArray.empty, .string ByteArray.empty, .string ByteArray.empty, .slice none 0 0, .string ByteArray.empty, .int .i64 0, .slice none 0 0, .int .i64 0, .int .i64 0, .string ByteArray.empty, .string ByteArray.empty, .string ByteArray.empty, .int .i64 0, .bool false]) := hb.trans ⟨rfl, rfl, rfl, by simp, fun k hk => setRow_other w' _ k _ (by omega)⟩
    go_wp2_with (first
      | (refine wpList_store_row rfl 30 _ _ rfl (w.heap.size + 1 + 1) 30 _ #[.int .i64 0, .string ByteArray.empty, .string ByteArray.empty, .string ByteArray.empty, .string ByteArray.empty, .string ByteArray.empty, .slice none 0 0, .string ByteArray.empty, .int .i64 0, .slice none 0 0, .int .i64 0, .int .i64 0, .string ByteArray.empty, .string ByteArray.empty, .string ByteArray.empty, .int .i64 0, .bool false] rfl rfl H2.out HI.out rfl h1.out ?_)
      | (refine wpList_load_mid rfl 30 _ rfl (w.heap.size + 1 + 1 + 1 + 1) 0 rfl _ _ hrng.out Try.underlying30 rfl HI.out ?_))
    refine bodyPost_ret (results_row_tmp rfl _ _ (w.heap.size + 1 + 1) _ _ (0, 0) _ rfl HROW.out Try.underlying30 rfl HI.out) rfl ?_
    exact ⟨hb2, .inr ⟨P.out, rfl⟩⟩

set_option maxRecDepth 100000 in
set_option maxHeartbeats 2000000 in
theorem Get_Command (a : Option Addr) (len cap : Nat) (bs : List UInt8) (w : World) (hl : bs.length = len) (hrd : RdS w (· < w.heap.size) a (cb bs)) (hlc : len ≤ cap) (hcm : cap ≤ maxLen) :
    Calls Try.prog 17 #[.slice a len cap] w (GetPost w #[.int .i64 0, .string ByteArray.empty, .string ByteArray.empty, .string ByteArray.empty, .string ByteArray.empty, .string ByteArray.empty, .slice none 0 0, .string ByteArray.empty, .int .i64 0, .slice none 0 0, .int .i64 0, .int .i64 0, .string ByteArray.empty, .string ByteArray.empty, .string ByteArray.empty, .int .i64 0, .bool false] shCommand bs) := by
  have hi : (Try.prog.info? 30).map (·.size) = some 17 := by kernel_rfl
  have HI := Lib.hid hi; clear hi
  have HL := Lib.hid hl; clear hl
  go_enter Try.func17, Try.ntmps17
  go_wp2_with fail
  refine (get_Command a len cap bs _ HL.out (hrd.kept (fun k hk => by simp; omega) (Keeps.refl.alloc _)) hlc hcm).mono ?_
  intro e w' h
  obtain ⟨hh, hb, ⟨ts, cs, P, rfl, I⟩ | ⟨P, rfl⟩⟩ := h.boxed
  · clear h
    obtain ⟨n0, s1, s2, s3, s4, s5, a6, l6, c6, s7_0, n7_1, a7_2, l7_2, c7_2, n7_3, n7_4, s7_5, s7_6, s7_7, n8, b9, rfl⟩ := cells_Command I
    have P := Lib.hid P
    have H2 := Lib.hid hh; clear hh
    have h1 := Lib.hid (all_oneCell_toArray I.oneCell)
    have HROW := Lib.hid (setRow_heap w' w.heap.size _ #[.int .i64 n0, .string s1, .string s2, .string s3, .string s4, .string s5, .slice a6 l6 c6, .string s7_0, .int .i64 n7_1, .slice a7_2 l7_2 c7_2, .int .i64 n7_3, .int .i64 n7_4, .string s7_5, .string s7_6, .string s7_7, .int .i64 n8, .bool b9] _ _ H2.out)
    have hb2 := below_setRow hb #[.int .i64 n0, .string s1, .string s2, .string s3, .string s4, .string s5, .slice a6 l6 c6, .string s7_0, .int .i64 n7_1, .slice a7_2 l7_2 c7_2, .int .i64 n7_3, .int .i64 n7_4, .string s7_5, .string s7_6, .string s7_7, .int .i64 n8, .bool b9]
    have I2 := is_shut #[.int .i64 n0, .string s1, .string s2, .string s3, .string s4, .string s5, .slice a6 l6 c6, .string s7_0, .int .i64 n7_1, .slice a7_2 l7_2 c7_2, .int .i64 n7_3, .int .i64 n7_4, .string s7_5, .string s7_6, .string s7_7, .int .i64 n8, .bool b9] I
    go_wp2_with (refine wpList_store_row rfl 30 _ _ rfl w.heap.size 30 _ #[.int .i64 n0, .string s1, .string s2, .string s3, .string s4, .string s5, .slice a6 l6 c6, .string s7_0, .int .i64 n7_1, .slice a7_2 l7_2 c7_2, .int .i64 n7_3, .int .i64 n7_4, .string s7_5, .string s7_6, .string s7_7, .int .i64 n8, .bool b9] rfl rfl H2.out HI.out rfl h1.out ?_)
    refine bodyPost_ret (results_row_tmp rfl _ _ w.heap.size _ _ (0, 0) _ rfl HROW.out Try.underlying30 rfl HI.out) rfl ?_
    exact ⟨hb2, .inl ⟨_, _, P.out, rfl, I2⟩⟩
  · clear h
    have P := Lib.hid P
    have H2 := Lib.hid hh; clear hh
    have h1 : (#[.int .i64 0, .string ByteArray.empty, .string ByteArray.empty, .string ByteArray.empty, .string ByteArray.empty, .string ByteArray.empty, .slice none 0 0, .string ByteArray.empty, .int .i64 0, .slice none 0 0, .int .i64 0, .int .i64 0, .string ByteArray.empty, .string ByteArray.empty, .string ByteArray.empty, .int .i64 0, .bool false] : Array Value).all (·.oneCell') = true := by kernel_rfl
    have h1 := Lib.hid h1
    have HROW := Lib.hid (setRow_heap w' w.heap.size _ #[.int .i64 0, .string ByteArray.empty, .string ByteArray.empty, .string ByteArray.empty, .string ByteArray.empty, .string ByteArray.empty, .slice none 0 0, .string ByteArray.empty, .int .i64 0, .slice none 0 0, .int .i64 0, .int .i64 0, .string ByteArray.empty, .string ByteArray.empty, .string ByteArray.empty, .int .i64 0, .bool false] _ _ H2.out)
    have hb2 := below_setRow hb #[.int .i64 0, .string ByteArray.empty, .string ByteArray.empty, .string ByteArray.empty, .string ByteArray.empty, .string ByteArray.empty, .slice none 0 0, .string ByteArray.empty, .int .i64 0, .slice none 0 0, .int .i64 0, .int .i64 0, .string ByteArray.empty, .string ByteArray.empty, .string ByteArray.empty, .int .i64 0, .bool false]
    go_wp2_with (refine wpList_store_row rfl 30 _ _ rfl w.heap.size 30 _ #[.int .i64 0, .string ByteArray.empty, .string ByteArray.empty, .string ByteArray.empty, .string ByteArray.empty, .string ByteArray.empty, .slice none 0 0, .string ByteArray.empty, .int .i64 0, .slice none 0 0, .int .i64 0, .int .i64 0, .string ByteArray.empty, .string ByteArray.empty, .string ByteArray.empty, .int .i64 0, .bool false] rfl rfl H2.out HI.out rfl h1.out ?_)
    refine bodyPost_ret (results_row_tmp rfl _ _ w.heap.size _ _ (0, 0) _ rfl HROW.out Try.underlying30 rfl HI.out) rfl ?_
    exact ⟨hb2, .inr ⟨P.out, rfl⟩⟩

set_option maxRecDepth 100000 in
set_option maxHeartbeats 2000000 in
theorem clo_get_Op (B bb bt bx : Nat) (a : Option Addr) (len cap : Nat) (bs : List UInt8) (w : World) (hB : B ≤ w.heap.size) (hBx : B ≤ bx) (hl : bs.length = len) (hlc : len ≤ cap) (hcm : cap ≤ maxLen) (hrd : RdS w (· < B) a (cb bs))
    (hb : w.cell? ⟨bb, 0, none⟩ = some (.slice a len cap)) (ht : w.cell? ⟨bt, 0, none⟩ = some (.func (.func 56) #[] #[])) (hx : w.heap[bx]? = some (.cells #[.int .i64 0, .int .i64 0, .int .i64 0, .int .i64 0, .string ByteArray.empty, .string ByteArray.empty, .string ByteArray.empty, .string ByteArray.empty, .string ByteArray.empty, .slice none 0 0, .string ByteArray.empty, .int .i64 0, .slice none 0 0, .int .i64 0, .int .i64 0, .string ByteArray.empty, .string ByteArray.empty, .string ByteArray.empty, .int .i64 0, .bool false, .int .i64 0, .int .i64 0, .int .i64 0] 72 (0, 0))) :
    Calls Try.prog 114 #[.pointer (some ⟨bb, 0, none⟩), .pointer (some ⟨bt, 0, none⟩), .pointer (some ⟨bx, 0, none⟩)] w (CloPost w bx 72 shOp bs) := by
  have hi : (Try.prog.info? 72).map (·.size) = some 23 := by kernel_rfl
  have HI := Lib.hid hi; clear hi
  have hlt := lt_of_block hx
  have hRe : Re (w.alloc (.cells #[.slice a len cap] 142)) w.heap.size B bs := by
    subst hl
    exact ⟨hB, a, cap, heap_alloc_new w _, hrd.kept (fun _ h => h) (Keeps.refl.alloc _), hlc, hcm⟩
  have HX := Lib.hid hx; clear hx
  have HL := Lib.hid hl; clear hl
  have ht2 : (w.alloc (.cells #[.slice a len cap] 142)).cell? ⟨bt, 0, none⟩ = some (.func (.func 56) #[] #[]) := (Keeps.refl (S := fun _ => True)).alloc _ |>.cell ht trivial
  clear ht
  go_enter Try.func114, Try.ntmps114
  go_wp2_with fail
  refine (r_op w.heap.size bs _ hRe).mono ?_
  rintro e w1 ⟨K1, ⟨ts, r, cs, P, rfl, I, R⟩ | ⟨P, rfl⟩⟩
  case inr => exact ⟨rfl, keeps_box K1, .inr ⟨fun ts h => by (rw [P] at h; cases h), rfl⟩⟩
  obtain ⟨n0, n1, n2, n3_0, s3_1, s3_2, s3_3, s3_4, s3_5, a3_6, l3_6, c3_6, s3_7_0, n3_7_1, a3_7_2, l3_7_2, c3_7_2, n3_7_3, n3_7_4, s3_7_5, s3_7_6, s3_7_7, n3_8, b3_9, n4, n5, n6, rfl⟩ := cells_Op I
  simp only [agg]
  have P := Lib.hid P
  have HX1 := Lib.hid ((keeps_box (S := fun _ => True) K1).row HX.out trivial)
  have h1 := Lib.hid (all_oneCell_toArray I.oneCell)
  have KK := keeps_setRow (keeps_box (S := Off bx) K1) #[.int .i64 n0, .int .i64 n1, .int .i64 n2, .int .i64 n3_0, .string s3_1, .string s3_2, .string s3_3, .string s3_4, .string s3_5, .slice a3_6 l3_6 c3_6, .string s3_7_0, .int .i64 n3_7_1, .slice a3_7_2 l3_7_2 c3_7_2, .int .i64 n3_7_3, .int .i64 n3_7_4, .string s3_7_5, .string s3_7_6, .string s3_7_7, .int .i64 n3_8, .bool b3_9, .int .i64 n4, .int .i64 n5, .int .i64 n6]
  have HROW := Lib.hid (setRow_heap w1 bx _ #[.int .i64 n0, .int .i64 n1, .int .i64 n2, .int .i64 n3_0, .string s3_1, .string s3_2, .string s3_3, .string s3_4, .string s3_5, .slice a3_6 l3_6 c3_6, .string s3_7_0, .int .i64 n3_7_1, .slice a3_7_2 l3_7_2 c3_7_2, .int .i64 n3_7_3, .int .i64 n3_7_4, .string s3_7_5, .string s3_7_6, .string s3_7_7, .int .i64 n3_8, .bool b3_9, .int .i64 n4, .int .i64 n5, .int .i64 n6] _ _ HX1.out)
  have R2 := R.setRow' (g := bx) (by omega) hBx #[.int .i64 n0, .int .i64 n1, .int .i64 n2, .int .i64 n3_0, .string s3_1, .string s3_2, .string s3_3, .string s3_4, .string s3_5, .slice a3_6 l3_6 c3_6, .string s3_7_0, .int .i64 n3_7_1, .slice a3_7_2 l3_7_2 c3_7_2, .int .i64 n3_7_3, .int .i64 n3_7_4, .string s3_7_5, .string s3_7_6, .string s3_7_7, .int .i64 n3_8, .bool b3_9, .int .i64 n4, .int .i64 n5, .int .i64 n6]
  have I2 := I.keep (S' := New w.heap.size (w1.setRow bx #[.int .i64 n0, .int .i64 n1, .int .i64 n2, .int .i64 n3_0, .string s3_1, .string s3_2, .string s3_3, .string s3_4, .string s3_5, .slice a3_6 l3_6 c3_6, .string s3_7_0, .int .i64 n3_7_1, .slice a3_7_2 l3_7_2 c3_7_2, .int .i64 n3_7_3, .int .i64 n3_7_4, .string s3_7_5, .string s3_7_6, .string s3_7_7, .int .i64 n3_8, .bool b3_9, .int .i64 n4, .int .i64 n5, .int .i64 n6]).heap.size) (fun k hk => ⟨by have := hk.1; simp at this; omega, by simpa using hk.2⟩) ((⟨rfl, rfl, rfl, by simp, fun k _ hk => setRow_other w1 bx k _ (by have := hk.1; simp at this; omega)⟩ : Keeps _ w1 (w1.setRow bx #[.int .i64 n0, .int .i64 n1, .int .i64 n2, .int .i64 n3_0, .string s3_1, .string s3_2, .string s3_3, .string s3_4, .string s3_5, .slice a3_6 l3_6 c3_6, .string s3_7_0, .int .i64 n3_7_1, .slice a3_7_2 l3_7_2 c3_7_2, .int .i64 n3_7_3, .int .i64 n3_7_4, .string s3_7_5, .string s3_7_6, .string s3_7_7, .int .i64 n3_8, .bool b3_9, .int .i64 n4, .int .i64 n5, .int .i64 n6])))
  cases r with
  | nil =>
    go_wp2_with (refine wpList_store_row rfl 72 _ _ rfl bx 72 _ #[.int .i64 n0, .int .i64 n1, .int .i64 n2, .int .i64 n3_0, .string s3_1, .string s3_2, .string s3_3, .string s3_4, .string s3_5, .slice a3_6 l3_6 c3_6, .string s3_7_0, .int .i64 n3_7_1, .slice a3_7_2 l3_7_2 c3_7_2, .int .i64 n3_7_3, .int .i64 n3_7_4, .string s3_7_5, .string s3_7_6, .string s3_7_7, .int .i64 n3_8, .bool b3_9, .int .i64 n4, .int .i64 n5, .int .i64 n6] rfl rfl HX1.out HI.out rfl h1.out ?_)
    refine (end_none w.heap.size _ R2).mono ?_
    rintro e w2 ⟨rfl, rfl⟩
    go_wp2_with fail
    go_end0
    exact ⟨KK, .inl ⟨_, _, P.out, rfl, HROW.out, I2⟩⟩
  | cons b r =>
    go_wp2_with (refine wpList_store_row rfl 72 _ _ rfl bx 72 _ #[.int .i64 n0, .int .i64 n1, .int .i64 n2, .int .i64 n3_0, .string s3_1, .string s3_2, .string s3_3, .string s3_4, .string s3_5, .slice a3_6 l3_6 c3_6, .string s3_7_0, .int .i64 n3_7_1, .slice a3_7_2 l3_7_2 c3_7_2, .int .i64 n3_7_3, .int .i64 n3_7_4, .string s3_7_5, .string s3_7_6, .string s3_7_7, .int .i64 n3_8, .bool b3_9, .int .i64 n4, .int .i64 n5, .int .i64 n6] rfl rfl HX1.out HI.out rfl h1.out ?_)
    refine (end_some w.heap.size _ _ R2 (by simp)).mono ?_
    rintro e w2 ⟨rfl, rfl⟩
    exact ⟨rfl, KK, .inr ⟨fun ts h => by (rw [P.out] at h; simp at h), rfl⟩⟩

set_option maxRecDepth 100000 in
set_option maxHeartbeats 2000000 in
theorem get_Op (a : Option Addr) (len cap : Nat) (bs : List UInt8) (w : World) (hl : bs.length = len) (hrd : RdS w (· < w.heap.size) a (cb bs)) (hlc : len ≤ cap) (hcm : cap ≤ maxLen) :
    Calls Try.prog 55 #[.slice a len cap, .func (.func 56) #[] #[]] w (GetPost w #[.int .i64 0, .int .i64 0, .int .i64 0, .int .i64 0, .string ByteArray.empty, .string ByteArray.empty, .string ByteArray.empty, .string ByteArray.empty, .string ByteArray.empty, .slice none 0 0, .string ByteArray.empty, .int .i64 0, .slice none 0 0, .int .i64 0, .int .i64 0, .string ByteArray.empty, .string ByteArray.empty, .string ByteArray.empty, .int .i64 0, .bool false, .int .i64 0, .int .i64 0, .int .i64 0] shOp bs) := by
  have hmf : ∀ (fn : Fn) (first cap : Array Value) (w : World), (Instr.makeFunc fn first cap).run Try.prog w = .ok (.func fn first cap) w := fun _ _ _ _ => rfl
  have hcore := get_core w a len cap bs 72 #[.int .i64 0, .int .i64 0, .int .i64 0, .int .i64 0, .string ByteArray.empty, .string ByteArray.empty, .string ByteArray.empty, .string ByteArray.empty, .string ByteArray.empty, .slice none 0 0, .string ByteArray.empty, .int .i64 0, .slice none 0 0, .int .i64 0, .int .i64 0, .string ByteArray.empty, .string ByteArray.empty, .string ByteArray.empty, .int .i64 0, .bool false, .int .i64 0, .int .i64 0, .int .i64 0] shOp 56 114 116 (fun _ _ => rfl) hl hrd hlc hcm
    (fun bb bt bx w6 hz hbx hr hb ht hx => clo_get_Op w.heap.size bb bt bx a len cap bs w6 hz hbx hl hlc hcm hr hb ht hx)
  have hi : (Try.prog.info? 72).map (·.size) = some 23 := by kernel_rfl
  have HI := Lib.hid hi; clear hi
  have HC := Lib.hid hcore; clear hcore
  have HL := Lib.hid hl; clear hl
  go_enter Try.func55, Try.ntmps55
  go_wp2_with fail
  refine HC.out.mono ?_
  rintro e w' ⟨c, rfl, hb, h2, h4, ⟨rfl, ts, cs, P, h3, I⟩ | ⟨rfl, P⟩⟩
  · obtain ⟨n0, n1, n2, n3_0, s3_1, s3_2, s3_3, s3_4, s3_5, a3_6, l3_6, c3_6, s3_7_0, n3_7_1, a3_7_2, l3_7_2, c3_7_2, n3_7_3, n3_7_4, s3_7_5, s3_7_6, s3_7_7, n3_8, b3_9, n4, n5, n6, rfl⟩ := cells_Op I
    have P := Lib.hid P
    have H2 := Lib.hid h2; clear h2 h4
    have hrng := Lib.hid (box_range h3); clear h3
    have h1 := Lib.hid (all_oneCell_toArray I.oneCell)
    have HROW := Lib.hid (setRow_heap w' (w.heap.size + 1 + 1) _ #[.int .i64 n0, .int .i64 n1, .int .i64 n2, .int .i64 n3_0, .string s3_1, .string s3_2, .string s3_3, .string s3_4, .string s3_5, .slice a3_6 l3_6 c3_6, .string s3_7_0, .int .i64 n3_7_1, .slice a3_7_2 l3_7_2 c3_7_2, .int .i64 n3_7_3, .int .i64 n3_7_4, .string s3_7_5, .string s3_7_6, .string s3_7_7, .int .i64 n3_8, .bool b3_9, .int .i64 n4, .int .i64 n5, .int .i64 n6] _ _ H2.out)
    have hb2 : Below w.heap.size w (w'.setRow (w.heap.size + 1 + 1) #[.int .i64 n0, .int .i64 n1, .int .i64 n2, .int .i64 n3_0, .string s3_1, .string s3_2, .string s3_3, .string s3_4, .string s3_5, .slice a3_6 l3_6 c3_6, .string s3_7_0, .int .i64 n3_7_1, .slice a3_7_2 l3_7_2 c3_7_2, .int .i64 n3_7_3, .int .i64 n3_7_4, .string s3_7_5, .string s3_7_6, .string s3_7_7, .int .i64 n3_8, .bool b3_9, .int .i64 n4, .int .i64 n5, .int .i64 n6]) := hb.trans ⟨rfl, rfl, rfl, by simp, fun k hk => setRow_other w' _ k _ (by omega)⟩
    have I2 := I.keep (S' := New w.heap.size (w'.setRow (w.heap.size + 1 + 1) #[.int .i64 n0, .int .i64 n1, .int .i64 n2, .int .i64 n3_0, .string s3_1, .string s3_2, .string s3_3, .string s3_4, .string s3_5, .slice a3_6 l3_6 c3_6, .string s3_7_0, .int .i64 n3_7_1, .slice a3_7_2 l3_7_2 c3_7_2, .int .i64 n3_7_3, .int .i64 n3_7_4, .string s3_7_5, .string s3_7_6, .string s3_7_7, .int .i64 n3_8, .bool b3_9, .int .i64 n4, .int .i64 n5, .int .i64 n6]).heap.size) (fun k hk => ⟨by have := hk.1; omega, by simpa using hk.2⟩) ((⟨rfl, rfl, rfl, by simp, fun k _ hk => setRow_other w' _ k _ (by have := hk.1; omega)⟩ : Keeps _ w' (w'.setRow (w.heap.size + 1 + 1) #[.int .i64 n0, .int .i64 n1, .int .i64 n2, .int .i64 n3_0, .string s3_1, .string s3_2, .string s3_3, .string s3_4, .string s3_5, .slice a3_6 l3_6 c3_6, .string s3_7_0, .int .i64 n3_7_1, .slice a3_7_2 l3_7_2 c3_7_2, .int .i64 n3_7_3, .int .i64 n3_7_4, .string s3_7_5, .string s3_7_6, .string s3_7_7, .int .i64 n3_8, .bool b3_9, .int .i64 n4, .int .i64 n5, .int .i64 n6])))
    go_wp2_with (first
      | (refine wpList_store_row rfl 72 _ _ rfl (w.heap.size + 1 + 1) 72 _ #[.int .i64 n0, .int .i64 n1, .int .i64 n2, .int .i64 n3_0, .string s3_1, .string s3_2, .string s3_3, .string s3_4, .string s3_5, .slice a3_6 l3_6 c3_6, .string s3_7_0, .int .i64 n3_7_1, .slice a3_7_2 l3_7_2 c3_7_2, .int .i64 n3_7_3, .int .i64 n3_7_4, .string s3_7_5, .string s3_7_6, .string s3_7_7, .int .i64 n3_8, .bool b3_9, .int .i64 n4, .int .i64 n5, .int .i64 n6] rfl rfl H2.out HI.out rfl h1.out ?_)
      | (refine wpList_load_mid rfl 72 _ rfl (w.heap.size + 1 + 1 + 1) 0 rfl _ _ hrng.out Try.underlying72 rfl HI.out ?_))
    refine bodyPost_ret (results_row_tmp rfl _ _ (w.heap.size + 1 + 1) _ _ (0, 0) _ rfl HROW.out Try.underlying72 rfl HI.out) rfl ?_
    exact ⟨hb2, .inl ⟨_, _, P.out, rfl, I2⟩⟩
  · have P := Lib.hid P
    have H2 := Lib.hid h2; clear h2
    have hrng := Lib.hid (box_range (cs := [.int .i64 0, .int .i64 0, .int .i64 0, .int .i64 0, .string ByteArray.empty, .string ByteArray.empty, .string ByteArray.empty, .string ByteArray.empty, .string ByteArray.empty, .slice none 0 0, .string ByteArray.empty, .int .i64 0, .slice none 0 0, .int .i64 0, .int .i64 0, .string ByteArray.empty, .string ByteArray.empty, .string ByteArray.empty, .int .i64 0, .bool false, .int .i64 0, .int .i64 0, .int .i64 0]) h4); clear h4
    have h1 : (#[.int .i64 0, .int .i64 0, .int .i64 0, .int .i64 0, .string ByteArray.empty, .string ByteArray.empty, .string ByteArray.empty, .string ByteArray.empty, .string ByteArray.empty, .slice none 0 0, .string ByteArray.empty, .int .i64 0, .slice none 0 0, .int .i64 0, .int .i64 0, .string ByteArray.empty, .string ByteArray.empty, .string ByteArray.empty, .int .i64 0, .bool false, .int .i64 0, .int .i64 0, .int .i64 0] : Array Value).all (·.oneCell') = true := by kernel_rfl
    have h1 := Lib.hid h1
    have HROW := Lib.hid (setRow_heap w' (w.heap.size + 1 + 1) _ #[.int .i64 0, .int .i64 0, .int .i64 0, .int .i64 0, .string ByteArray.empty, .string ByteArray.empty, .string ByteArray.empty, .string ByteArray.empty, .string ByteArray.empty, .slice none 0 0, .string ByteArray.empty, .int .i64 0, .slice none 0 0, .int .i64 0, .int .i64 0, .string ByteArray.empty, .string ByteArray.empty, .string ByteArray.empty, .int .i64 0, .bool false, .int .i64 0, .int .i64 0, .int .i64 0] _ _ H2.out)
    have hb2 : Below w.heap.size w (w'.setRow (w.heap.size + 1 + 1) #[.int .i64 0, .int .i64 0, .int .i64 0, .int .i64 0, .string ByteArray.empty, .string ByteArray.empty, .string ByteArray.empty, .string ByteArray.empty, .string ByteArray.empty, .slice none 0 0, .string ByteArray.empty, .int .i64 0, .slice none 0 0, .int .i64 0, .int .i64 0, .string ByteArray.empty, .string ByteArray.empty, .string ByteArray.empty, .int .i64 0, .bool false, .int .i64 0, .int .i64 0, .int .i64 0]) := hb.trans ⟨rfl, rfl, rfl, by simp, fun k hk => setRow_other w' _ k _ (by omega)⟩
    go_wp2_with (first
      | (refine wpList_store_row rfl 72 _ _ rfl (w.heap.size + 1 + 1) 72 _ #[.int .i64 0, .int .i64 0, .int .i64 0, .int .i64 0, .string ByteArray.empty, .string ByteArray.empty, .string ByteArray.empty, .string ByteArray.empty, .string ByteArray.empty, .slice none 0 0, .string ByteArray.empty, .int .i64 0, .slice none 0 0, .int .i64 0, .int .i64 0, .string ByteArray.empty, .string ByteArray.empty, .string ByteArray.empty, .int .i64 0, .bool false, .int .i64 0, .int .i64 0, .int .i64 0] rfl rfl H2.out HI.out rfl h1.out ?_)
      | (refine wpList_load_mid rfl 72 _ rfl (w.heap.size + 1 + 1 + 1 + 1) 0 rfl _ _ hrng.out Try.underlying72 rfl HI.out ?_))
    refine bodyPost_ret (results_row_tmp rfl _ _ (w.heap.size + 1 + 1) _ _ (0, 0) _ rfl HROW.out Try.underlying72 rfl HI.out) rfl ?_
    exact ⟨hb2, .inr ⟨P.out, rfl⟩⟩

set_option maxRecDepth 100000 in
set_option maxHeartbeats 2000000 in
theorem Get_Op (a : Option Addr) (len cap : Nat) (bs : List UInt8) (w : World) (hl : bs.length = len) (hrd : RdS w (· < w.heap.size) a (cb bs)) (hlc : len ≤ cap) (hcm : cap ≤ maxLen) :
    Calls Try.prog 28 #[.slice a len cap] w (GetPost w #[.int .i64 0, .int .i64 0, .int .i64 0, .int .i64 0, .string ByteArray.empty, .string ByteArray.empty, .string ByteArray.empty, .string ByteArray.empty, .string ByteArray.empty, .slice none 0 0, .string ByteArray.empty, .int .i64 0, .slice none 0 0, .int .i64 0, .int .i64 0, .string ByteArray.empty, .string ByteArray.empty, .string ByteArray.empty, .int .i64 0, .bool false, .int .i64 0, .int .i64 0, .int .i64 0] shOp bs) := by
  have hi : (Try.prog.info? 72).map (·.size) = some 23 := by kernel_rfl
  have HI := Lib.hid hi; clear hi
  have HL := Lib.hid hl; clear hl
  go_enter Try.func28, Try.ntmps28
  go_wp2_with fail
  refine (get_Op a len cap bs _ HL.out (hrd.kept (fun k hk => by simp; omega) (Keeps.refl.alloc _)) hlc hcm).mono ?_
  intro e w' h
  obtain ⟨hh, hb, ⟨ts, cs, P, rfl, I⟩ | ⟨P, rfl⟩⟩ := h.boxed
  · clear h
    obtain ⟨n0, n1, n2, n3_0, s3_1, s3_2, s3_3, s3_4, s3_5, a3_6, l3_6, c3_6, s3_7_0, n3_7_1, a3_7_2, l3_7_2, c3_7_2, n3_7_3, n3_7_4, s3_7_5, s3_7_6, s3_7_7, n3_8, b3_9, n4, n5, n6, rfl⟩ := cells_Op I
    have P := Lib.hid P
    have H2 := Lib.hid hh; clear hh
    have h1 := Lib.hid (all_oneCell_toArray I.oneCell)
    have HROW := Lib.hid (setRow_heap w' w.heap.size _ #[.int .i64 n0, .int .i64 n1, .int .i64 n2, .int .i64 n3_0, .string s3_1, .string s3_2, .string s3_3, .string s3_4, .string s3_5, .slice a3_6 l3_6 c3_6, .string s3_7_0, .int .i64 n3_7_1, .slice a3_7_2 l3_7_2 c3_7_2, .int .i64 n3_7_3, .int .i64 n3_7_4, .string s3_7_5, .string s3_7_6, .string s3_7_7, .int .i64 n3_8, .bool b3_9, .int .i64 n4, .int .i64 n5, .int .i64 n6] _ _ H2.out)
    have hb2 := below_setRow hb #[.int .i64 n0, .int .i64 n1, .int .i64 n2, .int .i64 n3_0, .string s3_1, .string s3_2, .string s3_3, .string s3_4, .string s3_5, .slice a3_6 l3_6 c3_6, .string s3_7_0, .int .i64 n3_7_1, .slice a3_7_2 l3_7_2 c3_7_2, .int .i64 n3_7_3, .int .i64 n3_7_4, .string s3_7_5, .string s3_7_6, .string s3_7_7, .int .i64 n3_8, .bool b3_9, .int .i64 n4, .int .i64 n5, .int .i64 n6]
    have I2 := is_shut #[.int .i64 n0, .int .i64 n1, .int .i64 n2, .int .i64 n3_0, .string s3_1, .string s3_2, .string s3_3, .string s3_4, .string s3_5, .slice a3_6 l3_6 c3_6, .string s3_7_0, .int .i64 n3_7_1, .slice a3_7_2 l3_7_2 c3_7_2, .int .i64 n3_7_3, .int .i64 n3_7_4, .string s3_7_5, .string s3_7_6, .string s3_7_7, .int .i64 n3_8, .bool b3_9, .int .i64 n4, .int .i64 n5, .int .i64 n6] I
    go_wp2_with (refine wpList_store_row rfl 72 _ _ rfl w.heap.size 72 _ #[.int .i64 n0, .int .i64 n1, .int .i64 n2, .int .i64 n3_0, .string s3_1, .string s3_2, .string s3_3, .string s3_4, .string s3_5, .slice a3_6 l3_6 c3_6, .string s3_7_0, .int .i64 n3_7_1, .slice a3_7_2 l3_7_2 c3_7_2, .int .i64 n3_7_3, .int .i64 n3_7_4, .string s3_7_5, .string s3_7_6, .string s3_7_7, .int .i64 n3_8, .bool b3_9, .int .i64 n4, .int .i64 n5, .int .i64 n6] rfl rfl H2.out HI.out rfl h1.out ?_)
    refine bodyPost_ret (results_row_tmp rfl _ _ w.heap.size _ _ (0, 0) _ rfl HROW.out Try.underlying72 rfl HI.out) rfl ?_
    exact ⟨hb2, .inl ⟨_, _, P.out, rfl, I2⟩⟩
  · clear h
    have P := Lib.hid P
    have H2 := Lib.hid hh; clear hh
    have h1 : (#[.int .i64 0, .int .i64 0, .int .i64 0, .int .i64 0, .string ByteArray.empty, .string ByteArray.empty, .string ByteArray.empty, .string ByteArray.empty, .string ByteArray.empty, .slice none 0 0, .string ByteArray.empty, .int .i64 0, .slice none 0 0, .int .i64 0, .int .i64 0, .string ByteArray.empty, .string ByteArray.empty, .string ByteArray.empty, .int .i64 0, .bool false, .int .i64 0, .int .i64 0, .int .i64 0] : Array Value).all (·.oneCell') = true := by kernel_rfl
    have h1 := Lib.hid h1
    have HROW := Lib.hid (setRow_heap w' w.heap.size _ #[.int .i64 0, .int .i64 0, .int .i64 0, .int .i64 0, .string ByteArray.empty, .string ByteArray.empty, .string ByteArray.empty, .string ByteArray.empty, .string ByteArray.empty, .slice none 0 0, .string ByteArray.empty, .int .i64 0, .slice none 0 0, .int .i64 0, .int .i64 0, .string ByteArray.empty, .string ByteArray.empty, .string ByteArray.empty, .int .i64 0, .bool false, .int .i64 0, .int .i64 0, .int .i64 0] _ _ H2.out)
    have hb2 := below_setRow hb #[.int .i64 0, .int .i64 0, .int .i64 0, .int .i64 0, .string ByteArray.empty, .string ByteArray.empty, .string ByteArray.empty, .string ByteArray.empty, .string ByteArray.empty, .slice none 0 0, .string ByteArray.empty, .int .i64 0, .slice none 0 0, .int .i64 0, .int .i64 0, .string ByteArray.empty, .string ByteArray.empty, .string ByteArray.empty, .int .i64 0, .bool false, .int .i64 0, .int .i64 0, .int .i64 0]
    go_wp2_with (refine wpList_store_row rfl 72 _ _ rfl w.heap.size 72 _ #[.int .i64 0, .int .i64 0, .int .i64 0, .int .i64 0, .string ByteArray.empty, .string ByteArray.empty, .string ByteArray.empty, .string ByteArray.empty, .string ByteArray.empty, .slice none 0 0, .string ByteArray.empty, .int .i64 0, .slice none 0 0, .int .i64 0, .int .i64 0, .string ByteArray.empty, .string ByteArray.empty, .string ByteArray.empty, .int .i64 0, .bool false, .int .i64 0, .int .i64 0, .int .i64 0] rfl rfl H2.out HI.out rfl h1.out ?_)
    refine bodyPost_ret (results_row_tmp rfl _ _ w.heap.size _ _ (0, 0) _ rfl HROW.out Try.underlying72 rfl HI.out) rfl ?_
    exact ⟨hb2, .inr ⟨P.out, rfl⟩⟩

end Go.Proofs.Ytbhpbiimfcdgaaa
