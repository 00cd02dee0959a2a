/-
  The program's Put of commands, records and operations, by contract (made by wip/gen_wire.py)
-/
import Derived.Test.YtbhpbiimfcdgaaaGreatWireD
namespace Go.Proofs.YtbhpbiimfcdgaaaGreat
open Go.RowKit
set_option linter.unusedVariables false

set_option maxRecDepth 100000 in
set_option maxHeartbeats 2000000 in
theorem clo_Record (p : Nat) (S : Nat → Prop) (bl bv bx : Nat) (cs : List Value) (ts : List Tok) (w : World) (hW : Wr w S p []) (hI : Is w S shRecord cs ts) (hroom : Room [] ts)
    (hl : w.cell? ⟨bl, 0, none⟩ = some (.func (.func 60) #[] #[])) (hv : w.cell? ⟨bv, 0, none⟩ = some (.pointer (some ⟨p, 0, none⟩))) (hx : w.heap[bx]? = some (.cells cs.toArray 87 (0, 0))) :
    Calls Tryz.prog 88 #[.pointer (some ⟨bl, 0, none⟩), .pointer (some ⟨bv, 0, none⟩), .pointer (some ⟨bx, 0, none⟩)] w (WPost w S p [] ts) := by
  obtain ⟨n0, n1, n2, n3_0, n3_1, n3_2, a3_3_0, l3_3_0, c3_3_0, a3_3_1, l3_3_1, c3_3_1, s3_4, n4, n5_0, n5_1, a5_2_0, l5_2_0, c5_2_0, a5_2_1, l5_2_1, c5_2_1, s5_3, rfl⟩ := cells_Record hI
  have hL := box_range hx
  have hi : (Tryz.prog.info? 87).map (·.size) = some 15 := by kernel_rfl
  have HI := Lib.hid hi; clear hi
  have HX := Lib.hid hx; clear hx
  go_enter Tryz.func88, Tryz.ntmps88
  go_wp2_with (refine wpList_load_mid rfl 87 _ rfl bx 0 rfl _ _ hL Tryz.underlying87 rfl HI.out ?_)
  clear hL
  refine (w_record p S [] _ ts w hW hI hroom).mono ?_
  rintro e w1 ⟨K1, ⟨F1, rfl, W1⟩ | ⟨F1, rfl⟩⟩
  case inr => exact ⟨rfl, K1, .inr ⟨F1, rfl⟩⟩
  have F1 := Lib.hid F1
  go_wp2_with fail
  go_end0
  exact ⟨K1, .inl ⟨F1.out, rfl, W1⟩⟩

set_option maxRecDepth 100000 in
set_option maxHeartbeats 2000000 in
theorem put_Record (cs : List Value) (ts : List Tok) (w : World) (hI : Is w (· < w.heap.size) shRecord cs ts) (hroom : Room [] ts) :
    Calls Tryz.prog 59 #[.agg cs.toArray, .func (.func 60) #[] #[]] w (PutPost w ts) := by
  have hmf : ∀ (fn : Fn) (first cap : Array Value) (w : World), (Instr.makeFunc fn first cap).run Tryz.prog w = .ok (.func fn first cap) w := fun _ _ _ _ => rfl
  have hcore := put_core w ts (.cells cs.toArray 87) 60 88 141 (fun _ _ => rfl)
    (fun p S bl bv bx w5 hk hW hS hl hv hx => clo_Record p S bl bv bx cs ts w5 hW (hI.keep hS hk) hroom hl hv hx)
  obtain ⟨n0, n1, n2, n3_0, n3_1, n3_2, a3_3_0, l3_3_0, c3_3_0, a3_3_1, l3_3_1, c3_3_1, s3_4, n4, n5_0, n5_1, a5_2_0, l5_2_0, c5_2_0, a5_2_1, l5_2_1, c5_2_1, s5_3, rfl⟩ := cells_Record hI
  have HC := Lib.hid hcore; clear hcore
  go_enter Tryz.func59, Tryz.ntmps59
  go_wp2_with fail
  refine HC.out.mono ?_
  rintro e w' ⟨c, rfl, hc, hb, hv, hn⟩
  by_cases h0 : c = 0
  · subst h0
    obtain ⟨v, hcell, hown⟩ := hn rfl
    have HF := Lib.hid hc; clear hc
    go_wp2_with fail
    go_ret2
    exact ⟨hb, .inl ⟨HF.out.symm, v, rfl, hown⟩⟩
  · have HF := Lib.hid hc; clear hc
    clear hn
    go_wp2_with fail
    go_ret2
    exact ⟨hb, .inr ⟨by rw [← HF.out]; exact h0, by rw [← HF.out]; rfl⟩⟩

set_option maxRecDepth 100000 in
set_option maxHeartbeats 2000000 in
theorem Put_Record (cs : List Value) (ts : List Tok) (w : World) (hI : Is w (· < w.heap.size) shRecord cs ts) (hroom : Room [] ts) :
    Calls Tryz.prog 23 #[.agg cs.toArray] w (PutPost w ts) := by
  obtain ⟨n0, n1, n2, n3_0, n3_1, n3_2, a3_3_0, l3_3_0, c3_3_0, a3_3_1, l3_3_1, c3_3_1, s3_4, n4, n5_0, n5_1, a5_2_0, l5_2_0, c5_2_0, a5_2_1, l5_2_1, c5_2_1, s5_3, rfl⟩ := cells_Record hI
  go_enter Tryz.func23, Tryz.ntmps23
  go_wp2_with (first | (refine wpList_load_mid rfl 87 _ rfl w.heap.size 0 rfl _ _ (box_range (heap_alloc_new w _)) Tryz.underlying87 rfl (by kernel_rfl) ?_))
  refine (put_Record _ ts _ (hI.keep (fun k hk => by simp; omega) (Keeps.refl.alloc _)) hroom).mono ?_
  intro e w' h
  obtain ⟨hb, ⟨F, v, rfl, hown⟩ | ⟨F, rfl⟩⟩ := h.boxed
  · have F := Lib.hid F
    go_wp2_with fail
    go_ret2
    exact ⟨hb, .inl ⟨F.out, v, rfl, hown⟩⟩
  · generalize hf : firstF ts = c at *
    have HF := Lib.hid hf; clear hf
    go_wp2_with fail
    go_ret2
    exact ⟨hb, .inr ⟨by rw [HF.out]; exact F, by rw [HF.out]; rfl⟩⟩

set_option maxRecDepth 100000 in
set_option maxHeartbeats 2000000 in
theorem clo_Op (p : Nat) (S : Nat → Prop) (bl bv bx : Nat) (cs : List Value) (ts : List Tok) (w : World) (hW : Wr w S p []) (hI : Is w S shOp cs ts) (hroom : Room [] ts)
    (hl : w.cell? ⟨bl, 0, none⟩ = some (.func (.func 56) #[] #[])) (hv : w.cell? ⟨bv, 0, none⟩ = some (.pointer (some ⟨p, 0, none⟩))) (hx : w.heap[bx]? = some (.cells cs.toArray 72 (0, 0))) :
    Calls Tryz.prog 83 #[.pointer (some ⟨bl, 0, none⟩), .pointer (some ⟨bv, 0, none⟩), .pointer (some ⟨bx, 0, none⟩)] w (WPost w S p [] ts) := by
  obtain ⟨n0, n1, n2, n3_0, s3_1, s3_2, s3_3, s3_4, s3_5, a3_6, l3_6, c3_6, s3_7_0, n3_7_1, a3_7_2, l3_7_2, c3_7_2, n3_7_3, n3_7_4, s3_7_5, s3_7_6, s3_7_7, n3_8, b3_9, n4, n5, n6, rfl⟩ := cells_Op hI
  have hL := box_range hx
  have hi : (Tryz.prog.info? 72).map (·.size) = some 23 := by kernel_rfl
  have HI := Lib.hid hi; clear hi
  have HX := Lib.hid hx; clear hx
  go_enter Tryz.func83, Tryz.ntmps83
  go_wp2_with (refine wpList_load_mid rfl 72 _ rfl bx 0 rfl _ _ hL Tryz.underlying72 rfl HI.out ?_)
  clear hL
  refine (w_op p S [] _ ts w hW hI hroom).mono ?_
  rintro e w1 ⟨K1, ⟨F1, rfl, W1⟩ | ⟨F1, rfl⟩⟩
  case inr => exact ⟨rfl, K1, .inr ⟨F1, rfl⟩⟩
  have F1 := Lib.hid F1
  go_wp2_with fail
  go_end0
  exact ⟨K1, .inl ⟨F1.out, rfl, W1⟩⟩

set_option maxRecDepth 100000 in
set_option maxHeartbeats 2000000 in
theorem put_Op (cs : List Value) (ts : List Tok) (w : World) (hI : Is w (· < w.heap.size) shOp cs ts) (hroom : Room [] ts) :
    Calls Tryz.prog 55 #[.agg cs.toArray, .func (.func 56) #[] #[]] w (PutPost w ts) := by
  have hmf : ∀ (fn : Fn) (first cap : Array Value) (w : World), (Instr.makeFunc fn first cap).run Tryz.prog w = .ok (.func fn first cap) w := fun _ _ _ _ => rfl
  have hcore := put_core w ts (.cells cs.toArray 72) 56 83 134 (fun _ _ => rfl)
    (fun p S bl bv bx w5 hk hW hS hl hv hx => clo_Op p S bl bv bx cs ts w5 hW (hI.keep hS hk) hroom hl hv hx)
  obtain ⟨n0, n1, n2, n3_0, s3_1, s3_2, s3_3, s3_4, s3_5, a3_6, l3_6, c3_6, s3_7_0, n3_7_1, a3_7_2, l3_7_2, c3_7_2, n3_7_3, n3_7_4, s3_7_5, s3_7_6, s3_7_7, n3_8, b3_9, n4, n5, n6, rfl⟩ := cells_Op hI
  have HC := Lib.hid hcore; clear hcore
  go_enter Tryz.func55, Tryz.ntmps55
  go_wp2_with fail
  refine HC.out.mono ?_
  rintro e w' ⟨c, rfl, hc, hb, hv, hn⟩
  by_cases h0 : c = 0
  · subst h0
    obtain ⟨v, hcell, hown⟩ := hn rfl
    have HF := Lib.hid hc; clear hc
    go_wp2_with fail
    go_ret2
    exact ⟨hb, .inl ⟨HF.out.symm, v, rfl, hown⟩⟩
  · have HF := Lib.hid hc; clear hc
    clear hn
    go_wp2_with fail
    go_ret2
    exact ⟨hb, .inr ⟨by rw [← HF.out]; exact h0, by rw [← HF.out]; rfl⟩⟩

set_option maxRecDepth 100000 in
set_option maxHeartbeats 2000000 in
theorem Put_Op (cs : List Value) (ts : List Tok) (w : World) (hI : Is w (· < w.heap.size) shOp cs ts) (hroom : Room [] ts) :
    Calls Tryz.prog 21 #[.agg cs.toArray] w (PutPost w ts) := by
  obtain ⟨n0, n1, n2, n3_0, s3_1, s3_2, s3_3, s3_4, s3_5, a3_6, l3_6, c3_6, s3_7_0, n3_7_1, a3_7_2, l3_7_2, c3_7_2, n3_7_3, n3_7_4, s3_7_5, s3_7_6, s3_7_7, n3_8, b3_9, n4, n5, n6, rfl⟩ := cells_Op hI
  go_enter Tryz.func21, Tryz.ntmps21
  go_wp2_with (first | (refine wpList_load_mid rfl 72 _ rfl w.heap.size 0 rfl _ _ (box_range (heap_alloc_new w _)) Tryz.underlying72 rfl (by kernel_rfl) ?_))
  refine (put_Op _ ts _ (hI.keep (fun k hk => by simp; omega) (Keeps.refl.alloc _)) hroom).mono ?_
  intro e w' h
  obtain ⟨hb, ⟨F, v, rfl, hown⟩ | ⟨F, rfl⟩⟩ := h.boxed
  · have F := Lib.hid F
    go_wp2_with fail
    go_ret2
    exact ⟨hb, .inl ⟨F.out, v, rfl, hown⟩⟩
  · generalize hf : firstF ts = c at *
    have HF := Lib.hid hf; clear hf
    go_wp2_with fail
    go_ret2
    exact ⟨hb, .inr ⟨by rw [HF.out]; exact F, by rw [HF.out]; rfl⟩⟩

end Go.Proofs.YtbhpbiimfcdgaaaGreat
