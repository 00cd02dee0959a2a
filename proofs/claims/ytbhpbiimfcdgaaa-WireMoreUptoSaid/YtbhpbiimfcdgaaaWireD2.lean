/-
  The program's Put of catalogs and machines, by contract (made by wip/gen_wire.py)
-/
import Derived.Test.YtbhpbiimfcdgaaaWireD1
namespace Go.Proofs.Ytbhpbiimfcdgaaa
open Go.RowKit
set_option linter.unusedVariables false

set_option maxRecDepth 100000 in
set_option maxHeartbeats 2000000 in
theorem clo_Catalog (p : Nat) (S : Nat → Prop) (bl bv bx : Nat) (cs : List Value) (ts : List Tok) (w : World) (hW : Wr w S p []) (hI : Is w S shCatalog cs ts) (hroom : Room [] ts)
    (hl : w.cell? ⟨bl, 0, none⟩ = some (.func (.func 45) #[] #[])) (hv : w.cell? ⟨bv, 0, none⟩ = some (.pointer (some ⟨p, 0, none⟩))) (hx : w.heap[bx]? = some (.cells cs.toArray 51 (0, 0))) :
    Calls Try.prog 95 #[.pointer (some ⟨bl, 0, none⟩), .pointer (some ⟨bv, 0, none⟩), .pointer (some ⟨bx, 0, none⟩)] w (WPost w S p [] ts) := by
  obtain ⟨n0, n1, a2, l2, c2, a3, l3, c3, a4, l4, c4, a5, l5, c5, a6, l6, c6, rfl⟩ := cells_Catalog hI
  have hL := box_range hx
  have hi : (Try.prog.info? 51).map (·.size) = some 7 := by kernel_rfl
  have HI := Lib.hid hi; clear hi
  have HX := Lib.hid hx; clear hx
  go_enter Try.func95, Try.ntmps95
  go_wp2_with (refine wpList_load_mid rfl 51 _ rfl bx 0 rfl _ _ hL Try.underlying51 rfl HI.out ?_)
  clear hL
  refine (w_catalog p S [] _ ts w hW hI hroom).mono ?_
  rintro e w1 ⟨K1, ⟨F1, rfl, W1⟩ | ⟨F1, rfl⟩⟩
  case inr => exact ⟨rfl, K1, .inr ⟨F1, rfl⟩⟩
  have F1 := Lib.hid F1
  go_wp2_with fail
  go_end0
  exact ⟨K1, .inl ⟨F1.out, rfl, W1⟩⟩

set_option maxRecDepth 100000 in
set_option maxHeartbeats 2000000 in
theorem put_Catalog (cs : List Value) (ts : List Tok) (w : World) (hI : Is w (· < w.heap.size) shCatalog cs ts) (hroom : Room [] ts) :
    Calls Try.prog 44 #[.agg cs.toArray, .func (.func 45) #[] #[]] w (PutPost w ts) := by
  have hmf : ∀ (fn : Fn) (first cap : Array Value) (w : World), (Instr.makeFunc fn first cap).run Try.prog w = .ok (.func fn first cap) w := fun _ _ _ _ => rfl
  have hcore := put_core w ts (.cells cs.toArray 51) 45 95 105 (fun _ _ => rfl)
    (fun p S bl bv bx w5 hk hW hS hl hv hx => clo_Catalog p S bl bv bx cs ts w5 hW (hI.keep hS hk) hroom hl hv hx)
  obtain ⟨n0, n1, a2, l2, c2, a3, l3, c3, a4, l4, c4, a5, l5, c5, a6, l6, c6, rfl⟩ := cells_Catalog hI
  have HC := Lib.hid hcore; clear hcore
  go_enter Try.func44, Try.ntmps44
  go_wp2_with fail
  refine HC.out.mono ?_
  rintro e w' ⟨c, rfl, hc, hb, hv, hn⟩
  by_cases h0 : c = 0
  · subst h0
    obtain ⟨v, hcell, hown⟩ := hn rfl
    have HF := Lib.hid hc; clear hc
    go_wp2_with fail
    go_ret2
    exact ⟨hb, .inl ⟨HF.out.symm, v, rfl, hown⟩⟩
  · have HF := Lib.hid hc; clear hc
    clear hn
    go_wp2_with fail
    go_ret2
    exact ⟨hb, .inr ⟨by rw [← HF.out]; exact h0, by rw [← HF.out]; rfl⟩⟩

set_option maxRecDepth 100000 in
set_option maxHeartbeats 2000000 in
theorem Put_Catalog (cs : List Value) (ts : List Tok) (w : World) (hI : Is w (· < w.heap.size) shCatalog cs ts) (hroom : Room [] ts) :
    Calls Try.prog 21 #[.agg cs.toArray] w (PutPost w ts) := by
  obtain ⟨n0, n1, a2, l2, c2, a3, l3, c3, a4, l4, c4, a5, l5, c5, a6, l6, c6, rfl⟩ := cells_Catalog hI
  go_enter Try.func21, Try.ntmps21
  go_wp2_with (first | (refine wpList_load_mid rfl 51 _ rfl w.heap.size 0 rfl _ _ (box_range (heap_alloc_new w _)) Try.underlying51 rfl (by kernel_rfl) ?_))
  refine (put_Catalog _ ts _ (hI.keep (fun k hk => by simp; omega) (Keeps.refl.alloc _)) hroom).mono ?_
  intro e w' h
  obtain ⟨hb, ⟨F, v, rfl, hown⟩ | ⟨F, rfl⟩⟩ := h.boxed
  · have F := Lib.hid F
    go_wp2_with fail
    go_ret2
    exact ⟨hb, .inl ⟨F.out, v, rfl, hown⟩⟩
  · generalize hf : firstF ts = c at *
    have HF := Lib.hid hf; clear hf
    go_wp2_with fail
    go_ret2
    exact ⟨hb, .inr ⟨by rw [HF.out]; exact F, by rw [HF.out]; rfl⟩⟩

set_option maxRecDepth 100000 in
set_option maxHeartbeats 2000000 in
theorem clo_Machine (p : Nat) (S : Nat → Prop) (bl bv bx : Nat) (cs : List Value) (ts : List Tok) (w : World) (hW : Wr w S p []) (hI : Is w S shMachine cs ts) (hroom : Room [] ts)
    (hl : w.cell? ⟨bl, 0, none⟩ = some (.func (.func 60) #[] #[])) (hv : w.cell? ⟨bv, 0, none⟩ = some (.pointer (some ⟨p, 0, none⟩))) (hx : w.heap[bx]? = some (.cells cs.toArray 80 (0, 0))) :
    Calls Try.prog 115 #[.pointer (some ⟨bl, 0, none⟩), .pointer (some ⟨bv, 0, none⟩), .pointer (some ⟨bx, 0, none⟩)] w (WPost w S p [] ts) := by
  obtain ⟨n0_0, n0_1, a0_2, l0_2, c0_2, a0_3, l0_3, c0_3, a0_4, l0_4, c0_4, a0_5, l0_5, c0_5, a0_6, l0_6, c0_6, a1, l1, c1, a2, l2, c2, n3, rfl⟩ := cells_Machine hI
  have hL := box_range hx
  have hi : (Try.prog.info? 80).map (·.size) = some 10 := by kernel_rfl
  have HI := Lib.hid hi; clear hi
  have HX := Lib.hid hx; clear hx
  go_enter Try.func115, Try.ntmps115
  go_wp2_with (refine wpList_load_mid rfl 80 _ rfl bx 0 rfl _ _ hL Try.underlying80 rfl HI.out ?_)
  clear hL
  refine (w_machine p S [] _ ts w hW hI hroom).mono ?_
  rintro e w1 ⟨K1, ⟨F1, rfl, W1⟩ | ⟨F1, rfl⟩⟩
  case inr => exact ⟨rfl, K1, .inr ⟨F1, rfl⟩⟩
  have F1 := Lib.hid F1
  go_wp2_with fail
  go_end0
  exact ⟨K1, .inl ⟨F1.out, rfl, W1⟩⟩

set_option maxRecDepth 100000 in
set_option maxHeartbeats 2000000 in
theorem put_Machine (cs : List Value) (ts : List Tok) (w : World) (hI : Is w (· < w.heap.size) shMachine cs ts) (hroom : Room [] ts) :
    Calls Try.prog 59 #[.agg cs.toArray, .func (.func 60) #[] #[]] w (PutPost w ts) := by
  have hmf : ∀ (fn : Fn) (first cap : Array Value) (w : World), (Instr.makeFunc fn first cap).run Try.prog w = .ok (.func fn first cap) w := fun _ _ _ _ => rfl
  have hcore := put_core w ts (.cells cs.toArray 80) 60 115 120 (fun _ _ => rfl)
    (fun p S bl bv bx w5 hk hW hS hl hv hx => clo_Machine p S bl bv bx cs ts w5 hW (hI.keep hS hk) hroom hl hv hx)
  obtain ⟨n0_0, n0_1, a0_2, l0_2, c0_2, a0_3, l0_3, c0_3, a0_4, l0_4, c0_4, a0_5, l0_5, c0_5, a0_6, l0_6, c0_6, a1, l1, c1, a2, l2, c2, n3, rfl⟩ := cells_Machine hI
  have HC := Lib.hid hcore; clear hcore
  go_enter Try.func59, Try.ntmps59
  go_wp2_with fail
  refine HC.out.mono ?_
  rintro e w' ⟨c, rfl, hc, hb, hv, hn⟩
  by_cases h0 : c = 0
  · subst h0
    obtain ⟨v, hcell, hown⟩ := hn rfl
    have HF := Lib.hid hc; clear hc
    go_wp2_with fail
    go_ret2
    exact ⟨hb, .inl ⟨HF.out.symm, v, rfl, hown⟩⟩
  · have HF := Lib.hid hc; clear hc
    clear hn
    go_wp2_with fail
    go_ret2
    exact ⟨hb, .inr ⟨by rw [← HF.out]; exact h0, by rw [← HF.out]; rfl⟩⟩

set_option maxRecDepth 100000 in
set_option maxHeartbeats 2000000 in
theorem Put_Machine (cs : List Value) (ts : List Tok) (w : World) (hI : Is w (· < w.heap.size) shMachine cs ts) (hroom : Room [] ts) :
    Calls Try.prog 31 #[.agg cs.toArray] w (PutPost w ts) := by
  obtain ⟨n0_0, n0_1, a0_2, l0_2, c0_2, a0_3, l0_3, c0_3, a0_4, l0_4, c0_4, a0_5, l0_5, c0_5, a0_6, l0_6, c0_6, a1, l1, c1, a2, l2, c2, n3, rfl⟩ := cells_Machine hI
  go_enter Try.func31, Try.ntmps31
  go_wp2_with (first | (refine wpList_load_mid rfl 80 _ rfl w.heap.size 0 rfl _ _ (box_range (heap_alloc_new w _)) Try.underlying80 rfl (by kernel_rfl) ?_))
  refine (put_Machine _ ts _ (hI.keep (fun k hk => by simp; omega) (Keeps.refl.alloc _)) hroom).mono ?_
  intro e w' h
  obtain ⟨hb, ⟨F, v, rfl, hown⟩ | ⟨F, rfl⟩⟩ := h.boxed
  · have F := Lib.hid F
    go_wp2_with fail
    go_ret2
    exact ⟨hb, .inl ⟨F.out, v, rfl, hown⟩⟩
  · generalize hf : firstF ts = c at *
    have HF := Lib.hid hf; clear hf
    go_wp2_with fail
    go_ret2
    exact ⟨hb, .inr ⟨by rw [HF.out]; exact F, by rw [HF.out]; rfl⟩⟩

end Go.Proofs.Ytbhpbiimfcdgaaa
