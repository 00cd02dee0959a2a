/-
  The program's Put of commands, records and operations, by contract (made by wip/gen_wire.py)
-/
import Derived.Test.YtbhpbiimfcdgaaaWireD
namespace Go.Proofs.Ytbhpbiimfcdgaaa
open Go.RowKit
set_option linter.unusedVariables false

set_option maxRecDepth 100000 in
set_option maxHeartbeats 2000000 in
theorem clo_Record (p : Nat) (S : Nat → Prop) (bl bv bx : Nat) (cs : List Value) (ts : List Tok) (w : World) (hW : Wr w S p []) (hI : Is w S shRecord cs ts) (hroom : Room [] ts)
    (hl : w.cell? ⟨bl, 0, none⟩ = some (.func (.func 48) #[] #[])) (hv : w.cell? ⟨bv, 0, none⟩ = some (.pointer (some ⟨p, 0, none⟩))) (hx : w.heap[bx]? = some (.cells cs.toArray 65 (0, 0))) :
    Calls Try.prog 106 #[.pointer (some ⟨bl, 0, none⟩), .pointer (some ⟨bv, 0, none⟩), .pointer (some ⟨bx, 0, none⟩)] w (WPost w S p [] ts) := by
  obtain ⟨n0, n1, n2, n3_0, n3_1, n3_2, a3_3_0, l3_3_0, c3_3_0, a3_3_1, l3_3_1, c3_3_1, s3_4, n4, n5_0, n5_1, a5_2_0, l5_2_0, c5_2_0, a5_2_1, l5_2_1, c5_2_1, s5_3, rfl⟩ := cells_Record hI
  have hL := box_range hx
  have hi : (Try.prog.info? 65).map (·.size) = some 15 := by kernel_rfl
  have HI := Lib.hid hi; clear hi
  have HX := Lib.hid hx; clear hx
  go_enter Try.func106, Try.ntmps106
  go_wp2_with (refine wpList_load_mid rfl 65 _ rfl bx 0 rfl _ _ hL Try.underlying65 rfl HI.out ?_)
  clear hL
  refine (w_record p S [] _ ts w hW hI hroom).mono ?_
  rintro e w1 ⟨K1, ⟨F1, rfl, W1⟩ | ⟨F1, rfl⟩⟩
  case inr => exact ⟨rfl, K1, .inr ⟨F1, rfl⟩⟩
  have F1 := Lib.hid F1
  go_wp2_with fail
  go_end0
  exact ⟨K1, .inl ⟨F1.out, rfl, W1⟩⟩

set_option maxRecDepth 100000 in
set_option maxHeartbeats 2000000 in
theorem put_Record (cs : List Value) (ts : List Tok) (w : World) (hI : Is w (· < w.heap.size) shRecord cs ts) (hroom : Room [] ts) :
    Calls Try.prog 47 #[.agg cs.toArray, .func (.func 48) #[] #[]] w (PutPost w ts) := by
  have hmf : ∀ (fn : Fn) (first cap : Array Value) (w : World), (Instr.makeFunc fn first cap).run Try.prog w = .ok (.func fn first cap) w := fun _ _ _ _ => rfl
  have hcore := put_core w ts (.cells cs.toArray 65) 48 106 108 (fun _ _ => rfl)
    (fun p S bl bv bx w5 hk hW hS hl hv hx => clo_Record p S bl bv bx cs ts w5 hW (hI.keep hS hk) hroom hl hv hx)
  obtain ⟨n0, n1, n2, n3_0, n3_1, n3_2, a3_3_0, l3_3_0, c3_3_0, a3_3_1, l3_3_1, c3_3_1, s3_4, n4, n5_0, n5_1, a5_2_0, l5_2_0, c5_2_0, a5_2_1, l5_2_1, c5_2_1, s5_3, rfl⟩ := cells_Record hI
  have HC := Lib.hid hcore; clear hcore
  go_enter Try.func47, Try.ntmps47
  go_wp2_with fail
  refine HC.out.mono ?_
  rintro e w' ⟨c, rfl, hc, hb, hv, hn⟩
  by_cases h0 : c = 0
  · subst h0
    obtain ⟨v, hcell, hown⟩ := hn rfl
    have HF := Lib.hid hc; clear hc
    go_wp2_with fail
    go_ret2
    exact ⟨hb, .inl ⟨HF.out.symm, v, rfl, hown⟩⟩
  · have HF := Lib.hid hc; clear hc
    clear hn
    go_wp2_with fail
    go_ret2
    exact ⟨hb, .inr ⟨by rw [← HF.out]; exact h0, by rw [← HF.out]; rfl⟩⟩

set_option maxRecDepth 100000 in
set_option maxHeartbeats 2000000 in
theorem Put_Record (cs : List Value) (ts : List Tok) (w : World) (hI : Is w (· < w.heap.size) shRecord cs ts) (hroom : Room [] ts) :
    Calls Try.prog 23 #[.agg cs.toArray] w (PutPost w ts) := by
  obtain ⟨n0, n1, n2, n3_0, n3_1, n3_2, a3_3_0, l3_3_0, c3_3_0, a3_3_1, l3_3_1, c3_3_1, s3_4, n4, n5_0, n5_1, a5_2_0, l5_2_0, c5_2_0, a5_2_1, l5_2_1, c5_2_1, s5_3, rfl⟩ := cells_Record hI
  go_enter Try.func23, Try.ntmps23
  go_wp2_with (first | (refine wpList_load_mid rfl 65 _ rfl w.heap.size 0 rfl _ _ (box_range (heap_alloc_new w _)) Try.underlying65 rfl (by kernel_rfl) ?_))
  refine (put_Record _ ts _ (hI.keep (fun k hk => by simp; omega) (Keeps.refl.alloc _)) hroom).mono ?_
  intro e w' h
  obtain ⟨hb, ⟨F, v, rfl, hown⟩ | ⟨F, rfl⟩⟩ := h.boxed
  · have F := Lib.hid F
    go_wp2_with fail
    go_ret2
    exact ⟨hb, .inl ⟨F.out, v, rfl, hown⟩⟩
  · generalize hf : firstF ts = c at *
    have HF := Lib.hid hf; clear hf
    go_wp2_with fail
    go_ret2
    exact ⟨hb, .inr ⟨by rw [HF.out]; exact F, by rw [HF.out]; rfl⟩⟩

set_option maxRecDepth 100000 in
set_option maxHeartbeats 2000000 in
theorem clo_Command (p : Nat) (S : Nat → Prop) (bl bv bx : Nat) (cs : List Value) (ts : List Tok) (w : World) (hW : Wr w S p []) (hI : Is w S shCommand cs ts) (hroom : Room [] ts)
    (hl : w.cell? ⟨bl, 0, none⟩ = some (.func (.func 37) #[] #[])) (hv : w.cell? ⟨bv, 0, none⟩ = some (.pointer (some ⟨p, 0, none⟩))) (hx : w.heap[bx]? = some (.cells cs.toArray 30 (0, 0))) :
    Calls Try.prog 71 #[.pointer (some ⟨bl, 0, none⟩), .pointer (some ⟨bv, 0, none⟩), .pointer (some ⟨bx, 0, none⟩)] w (WPost w S p [] ts) := by
  obtain ⟨n0, s1, s2, s3, s4, s5, a6, l6, c6, s7_0, n7_1, a7_2, l7_2, c7_2, n7_3, n7_4, s7_5, s7_6, s7_7, n8, b9, rfl⟩ := cells_Command hI
  have hL := box_range hx
  have hi : (Try.prog.info? 30).map (·.size) = some 17 := by kernel_rfl
  have HI := Lib.hid hi; clear hi
  have HX := Lib.hid hx; clear hx
  go_enter Try.func71, Try.ntmps71
  go_wp2_with (refine wpList_load_mid rfl 30 _ rfl bx 0 rfl _ _ hL Try.underlying30 rfl HI.out ?_)
  clear hL
  refine (w_command p S [] _ ts w hW hI hroom).mono ?_
  rintro e w1 ⟨K1, ⟨F1, rfl, W1⟩ | ⟨F1, rfl⟩⟩
  case inr => exact ⟨rfl, K1, .inr ⟨F1, rfl⟩⟩
  have F1 := Lib.hid F1
  go_wp2_with fail
  go_end0
  exact ⟨K1, .inl ⟨F1.out, rfl, W1⟩⟩

set_option maxRecDepth 100000 in
set_option maxHeartbeats 2000000 in
theorem put_Command (cs : List Value) (ts : List Tok) (w : World) (hI : Is w (· < w.heap.size) shCommand cs ts) (hroom : Room [] ts) :
    Calls Try.prog 36 #[.agg cs.toArray, .func (.func 37) #[] #[]] w (PutPost w ts) := by
  have hmf : ∀ (fn : Fn) (first cap : Array Value) (w : World), (Instr.makeFunc fn first cap).run Try.prog w = .ok (.func fn first cap) w := fun _ _ _ _ => rfl
  have hcore := put_core w ts (.cells cs.toArray 30) 37 71 95 (fun _ _ => rfl)
    (fun p S bl bv bx w5 hk hW hS hl hv hx => clo_Command p S bl bv bx cs ts w5 hW (hI.keep hS hk) hroom hl hv hx)
  obtain ⟨n0, s1, s2, s3, s4, s5, a6, l6, c6, s7_0, n7_1, a7_2, l7_2, c7_2, n7_3, n7_4, s7_5, s7_6, s7_7, n8, b9, rfl⟩ := cells_Command hI
  have HC := Lib.hid hcore; clear hcore
  go_enter Try.func36, Try.ntmps36
  go_wp2_with fail
  refine HC.out.mono ?_
  rintro e w' ⟨c, rfl, hc, hb, hv, hn⟩
  by_cases h0 : c = 0
  · subst h0
    obtain ⟨v, hcell, hown⟩ := hn rfl
    have HF := Lib.hid hc; clear hc
    go_wp2_with fail
    go_ret2
    exact ⟨hb, .inl ⟨HF.out.symm, v, rfl, hown⟩⟩
  · have HF := Lib.hid hc; clear hc
    clear hn
    go_wp2_with fail
    go_ret2
    exact ⟨hb, .inr ⟨by rw [← HF.out]; exact h0, by rw [← HF.out]; rfl⟩⟩

set_option maxRecDepth 100000 in
set_option maxHeartbeats 2000000 in
theorem Put_Command (cs : List Value) (ts : List Tok) (w : World) (hI : Is w (· < w.heap.size) shCommand cs ts) (hroom : Room [] ts) :
    Calls Try.prog 14 #[.agg cs.toArray] w (PutPost w ts) := by
  obtain ⟨n0, s1, s2, s3, s4, s5, a6, l6, c6, s7_0, n7_1, a7_2, l7_2, c7_2, n7_3, n7_4, s7_5, s7_6, s7_7, n8, b9, rfl⟩ := cells_Command hI
  go_enter Try.func14, Try.ntmps14
  go_wp2_with (first | (refine wpList_load_mid rfl 30 _ rfl w.heap.size 0 rfl _ _ (box_range (heap_alloc_new w _)) Try.underlying30 rfl (by kernel_rfl) ?_))
  refine (put_Command _ ts _ (hI.keep (fun k hk => by simp; omega) (Keeps.refl.alloc _)) hroom).mono ?_
  intro e w' h
  obtain ⟨hb, ⟨F, v, rfl, hown⟩ | ⟨F, rfl⟩⟩ := h.boxed
  · have F := Lib.hid F
    go_wp2_with fail
    go_ret2
    exact ⟨hb, .inl ⟨F.out, v, rfl, hown⟩⟩
  · generalize hf : firstF ts = c at *
    have HF := Lib.hid hf; clear hf
    go_wp2_with fail
    go_ret2
    exact ⟨hb, .inr ⟨by rw [HF.out]; exact F, by rw [HF.out]; rfl⟩⟩

set_option maxRecDepth 100000 in
set_option maxHeartbeats 2000000 in
theorem clo_Op (p : Nat) (S : Nat → Prop) (bl bv bx : Nat) (cs : List Value) (ts : List Tok) (w : World) (hW : Wr w S p []) (hI : Is w S shOp cs ts) (hroom : Room [] ts)
    (hl : w.cell? ⟨bl, 0, none⟩ = some (.func (.func 54) #[] #[])) (hv : w.cell? ⟨bv, 0, none⟩ = some (.pointer (some ⟨p, 0, none⟩))) (hx : w.heap[bx]? = some (.cells cs.toArray 72 (0, 0))) :
    Calls Try.prog 113 #[.pointer (some ⟨bl, 0, none⟩), .pointer (some ⟨bv, 0, none⟩), .pointer (some ⟨bx, 0, none⟩)] w (WPost w S p [] ts) := by
  obtain ⟨n0, n1, n2, n3_0, s3_1, s3_2, s3_3, s3_4, s3_5, a3_6, l3_6, c3_6, s3_7_0, n3_7_1, a3_7_2, l3_7_2, c3_7_2, n3_7_3, n3_7_4, s3_7_5, s3_7_6, s3_7_7, n3_8, b3_9, n4, n5, n6, rfl⟩ := cells_Op hI
  have hL := box_range hx
  have hi : (Try.prog.info? 72).map (·.size) = some 23 := by kernel_rfl
  have HI := Lib.hid hi; clear hi
  have HX := Lib.hid hx; clear hx
  go_enter Try.func113, Try.ntmps113
  go_wp2_with (refine wpList_load_mid rfl 72 _ rfl bx 0 rfl _ _ hL Try.underlying72 rfl HI.out ?_)
  clear hL
  refine (w_op p S [] _ ts w hW hI hroom).mono ?_
  rintro e w1 ⟨K1, ⟨F1, rfl, W1⟩ | ⟨F1, rfl⟩⟩
  case inr => exact ⟨rfl, K1, .inr ⟨F1, rfl⟩⟩
  have F1 := Lib.hid F1
  go_wp2_with fail
  go_end0
  exact ⟨K1, .inl ⟨F1.out, rfl, W1⟩⟩

set_option maxRecDepth 100000 in
set_option maxHeartbeats 2000000 in
theorem put_Op (cs : List Value) (ts : List Tok) (w : World) (hI : Is w (· < w.heap.size) shOp cs ts) (hroom : Room [] ts) :
    Calls Try.prog 53 #[.agg cs.toArray, .func (.func 54) #[] #[]] w (PutPost w ts) := by
  have hmf : ∀ (fn : Fn) (first cap : Array Value) (w : World), (Instr.makeFunc fn first cap).run Try.prog w = .ok (.func fn first cap) w := fun _ _ _ _ => rfl
  have hcore := put_core w ts (.cells cs.toArray 72) 54 113 114 (fun _ _ => rfl)
    (fun p S bl bv bx w5 hk hW hS hl hv hx => clo_Op p S bl bv bx cs ts w5 hW (hI.keep hS hk) hroom hl hv hx)
  obtain ⟨n0, n1, n2, n3_0, s3_1, s3_2, s3_3, s3_4, s3_5, a3_6, l3_6, c3_6, s3_7_0, n3_7_1, a3_7_2, l3_7_2, c3_7_2, n3_7_3, n3_7_4, s3_7_5, s3_7_6, s3_7_7, n3_8, b3_9, n4, n5, n6, rfl⟩ := cells_Op hI
  have HC := Lib.hid hcore; clear hcore
  go_enter Try.func53, Try.ntmps53
  go_wp2_with fail
  refine HC.out.mono ?_
  rintro e w' ⟨c, rfl, hc, hb, hv, hn⟩
  by_cases h0 : c = 0
  · subst h0
    obtain ⟨v, hcell, hown⟩ := hn rfl
    have HF := Lib.hid hc; clear hc
    go_wp2_with fail
    go_ret2
    exact ⟨hb, .inl ⟨HF.out.symm, v, rfl, hown⟩⟩
  · have HF := Lib.hid hc; clear hc
    clear hn
    go_wp2_with fail
    go_ret2
    exact ⟨hb, .inr ⟨by rw [← HF.out]; exact h0, by rw [← HF.out]; rfl⟩⟩

set_option maxRecDepth 100000 in
set_option maxHeartbeats 2000000 in
theorem Put_Op (cs : List Value) (ts : List Tok) (w : World) (hI : Is w (· < w.heap.size) shOp cs ts) (hroom : Room [] ts) :
    Calls Try.prog 27 #[.agg cs.toArray] w (PutPost w ts) := by
  obtain ⟨n0, n1, n2, n3_0, s3_1, s3_2, s3_3, s3_4, s3_5, a3_6, l3_6, c3_6, s3_7_0, n3_7_1, a3_7_2, l3_7_2, c3_7_2, n3_7_3, n3_7_4, s3_7_5, s3_7_6, s3_7_7, n3_8, b3_9, n4, n5, n6, rfl⟩ := cells_Op hI
  go_enter Try.func27, Try.ntmps27
  go_wp2_with (first | (refine wpList_load_mid rfl 72 _ rfl w.heap.size 0 rfl _ _ (box_range (heap_alloc_new w _)) Try.underlying72 rfl (by kernel_rfl) ?_))
  refine (put_Op _ ts _ (hI.keep (fun k hk => by simp; omega) (Keeps.refl.alloc _)) hroom).mono ?_
  intro e w' h
  obtain ⟨hb, ⟨F, v, rfl, hown⟩ | ⟨F, rfl⟩⟩ := h.boxed
  · have F := Lib.hid F
    go_wp2_with fail
    go_ret2
    exact ⟨hb, .inl ⟨F.out, v, rfl, hown⟩⟩
  · generalize hf : firstF ts = c at *
    have HF := Lib.hid hf; clear hf
    go_wp2_with fail
    go_ret2
    exact ⟨hb, .inr ⟨by rw [HF.out]; exact F, by rw [HF.out]; rfl⟩⟩

end Go.Proofs.Ytbhpbiimfcdgaaa
