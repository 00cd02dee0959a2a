/-
  The statement on the bytes of machines: the walk (made by wip/gen_wire.py)
-/
import Derived.Test.YtbhpbiimfcdgaaaWireH
import Derived.Test.YtbhpbiimfcdgaaaWireLw
namespace Go.Proofs.Ytbhpbiimfcdgaaa
open Go.RowKit
set_option linter.unusedVariables false

set_option maxRecDepth 100000 in
set_option maxHeartbeats 2000000 in
theorem walk_Machines (cs : List Value) (ts : List Tok) (w : World) (hI : Is w (· < w.heap.size) shMachine cs ts) (hroom : Room [] ts) :
    Calls Try.prog 10 #[.agg cs.toArray] w fun e w' => e = .returned (.bool true) ∧ Below w.heap.size w w' := by
  have hI0 : Is (w.alloc (.cells cs.toArray 80)) (· < (w.alloc (.cells cs.toArray 80)).heap.size) shMachine cs ts := hI.keep (fun k hk => by simp; omega) (Keeps.refl.alloc _)
  have hb0 : Below w.heap.size w (w.alloc (.cells cs.toArray 80)) := (Below.refl _ _).alloc (Nat.le_refl _) _
  obtain ⟨n0_0, n0_1, a0_2, l0_2, c0_2, a0_3, l0_3, c0_3, a0_4, l0_4, c0_4, a0_5, l0_5, c0_5, a0_6, l0_6, c0_6, a1, l1, c1, a2, l2, c2, n3, rfl⟩ := cells_Machine hI
  have H0 := Lib.hid (heap_alloc_new w (.cells #[.int .i64 n0_0, .int .i64 n0_1, .slice a0_2 l0_2 c0_2, .slice a0_3 l0_3 c0_3, .slice a0_4 l0_4 c0_4, .slice a0_5 l0_5 c0_5, .slice a0_6 l0_6 c0_6, .slice a1 l1 c1, .slice a2 l2 c2, .int .i64 n3] 80))
  have rng0 := Lib.hid (box_range (cs := [.int .i64 n0_0, .int .i64 n0_1, .slice a0_2 l0_2 c0_2, .slice a0_3 l0_3 c0_3, .slice a0_4 l0_4 c0_4, .slice a0_5 l0_5 c0_5, .slice a0_6 l0_6 c0_6, .slice a1 l1 c1, .slice a2 l2 c2, .int .i64 n3]) H0.out)
  have hi : (Try.prog.info? 80).map (·.size) = some 10 := by kernel_rfl
  have HI := Lib.hid hi; clear hi
  have hlt : w.heap.size < (w.alloc (.cells #[.int .i64 n0_0, .int .i64 n0_1, .slice a0_2 l0_2 c0_2, .slice a0_3 l0_3 c0_3, .slice a0_4 l0_4 c0_4, .slice a0_5 l0_5 c0_5, .slice a0_6 l0_6 c0_6, .slice a1 l1 c1, .slice a2 l2 c2, .int .i64 n3] 80)).heap.size := by simp
  go_enter Try.func10, Try.ntmps10
  go_wp2_with (refine wpList_load_mid rfl 80 _ rfl w.heap.size 0 rfl _ _ rng0.out Try.underlying80 rfl HI.out ?_)
  refine (RefPut_Machine _ ts _ hI0 hroom).mono ?_
  rintro e w1 ⟨hb1, h1⟩
  have hB1 := hb0.trans (hb1.mono hb0.size)
  have hI1 : Is w1 (· < w1.heap.size) shMachine _ ts := hI0.keep (fun k hk => Nat.lt_of_lt_of_le hk hb1.size) (Keeps.of_below hb1 fun _ h => h)
  have H1 := Lib.hid ((hb1.block _ hlt).trans H0.out)
  have rng1 := Lib.hid (box_range (cs := [.int .i64 n0_0, .int .i64 n0_1, .slice a0_2 l0_2 c0_2, .slice a0_3 l0_3 c0_3, .slice a0_4 l0_4 c0_4, .slice a0_5 l0_5 c0_5, .slice a0_6 l0_6 c0_6, .slice a1 l1 c1, .slice a2 l2 c2, .int .i64 n3]) H1.out)
  have hlt1 : w.heap.size < w1.heap.size := Nat.lt_of_lt_of_le hlt hb1.size
  rcases h1 with ⟨F, v1, rfl, o1⟩ | ⟨F, rfl⟩
  · obtain ⟨ax1, cx1, rfl, r1, l1⟩ := Rd.own o1
    have hBS : Hid ((bytesL ts).length = (bytesL ts).length) := Lib.hid rfl
    generalize hbs : bytesL ts = bs at *
    have HBS := Lib.hid hbs; clear hbs
    generalize hn : bs.length = n at *
    have HN := Lib.hid hn; clear hn
    clear o1 l1
    have F' := Lib.hid F; clear F
    by_cases hlen : 262144 < n
    · go_wp2_with fail
      go_ret
      exact ⟨rfl, hB1⟩
    · go_wp2_with (refine wpList_load_mid rfl 80 _ rfl w.heap.size 0 rfl _ _ rng1.out Try.underlying80 rfl HI.out ?_)
      refine (Put_Machine _ ts w1 hI1 hroom).mono ?_
      rintro e w2 ⟨hb2, ⟨F2, v2, rfl, o2⟩ | ⟨F2, rfl⟩⟩
      case inr => exact absurd F'.out F2
      rw [HBS.out, HN.out] at o2
      obtain ⟨ax2, cx2, rfl, r2, l2⟩ := Rd.own o2
      clear o2 l2 F2
      have hI2 : Is w2 (· < w2.heap.size) shMachine _ ts := hI1.keep (fun k hk => Nat.lt_of_lt_of_le hk hb2.size) (Keeps.of_below hb2 fun _ h => h)
      have H2 := Lib.hid ((hb2.block _ hlt1).trans H1.out)
      have rng2 := Lib.hid (box_range (cs := [.int .i64 n0_0, .int .i64 n0_1, .slice a0_2 l0_2 c0_2, .slice a0_3 l0_3 c0_3, .slice a0_4 l0_4 c0_4, .slice a0_5 l0_5 c0_5, .slice a0_6 l0_6 c0_6, .slice a1 l1 c1, .slice a2 l2 c2, .int .i64 n3]) H2.out)
      go_wp2_with (refine wpList_load_mid rfl 80 _ rfl w.heap.size 0 rfl _ _ rng2.out Try.underlying80 rfl HI.out ?_)
      refine (RefPut_Machine _ ts w2 hI2 hroom).mono ?_
      rintro e w3 ⟨hb3, ⟨F3, v3, rfl, o3⟩ | ⟨F3, rfl⟩⟩
      case inr => exact absurd F'.out F3
      rw [HBS.out, HN.out] at o3
      obtain ⟨ax3, cx3, rfl, r3, l3⟩ := Rd.own o3
      clear o3 l3 F3
      go_wp2_with fail
      refine (awake_any w3).mono ?_
      rintro e w4 ⟨rfl, hb4⟩
      have q1 := ((r1.below hb2 (Nat.le_refl _)).below hb3 hb2.size).below hb4 (Nat.le_trans hb2.size hb3.size)
      have q2 := (r2.below hb3 (Nat.le_refl _)).below hb4 hb3.size
      have q3 := r3.below hb4 (Nat.le_refl _)
      have s1 := run_string_of (P := Try.prog) q1 31 9 5 n cx1 HN.out Try.underlying31 Try.underlying5 Try.underlying9
      have s2 := run_string_of (P := Try.prog) q2 31 9 5 n cx2 HN.out Try.underlying31 Try.underlying5 Try.underlying9
      have s3 := run_string_of (P := Try.prog) q3 31 9 5 n cx3 HN.out Try.underlying31 Try.underlying5 Try.underlying9
      clear q1 q2 q3
      go_wp2_with fail
      go_ret
      exact ⟨rfl, hB1.trans (((hb2.trans (hb3.mono hb2.size)).trans (hb4.mono (Nat.le_trans hb2.size hb3.size))).mono hB1.size)⟩
  · generalize hf : firstF ts = f at *
    have HF := Lib.hid hf; clear hf
    have snil : ∀ w : World, (convert 31 9 (.slice none 0 0)).run Try.prog w = .ok (.string ⟨#[]⟩) w := fun w => run_string_of (B := 0) (bs := []) (.inl rfl) 31 9 5 0 0 rfl Try.underlying31 Try.underlying5 Try.underlying9
    have SNIL := Lib.hid snil; clear snil
    go_wp2_with (refine wpList_load_mid rfl 80 _ rfl w.heap.size 0 rfl _ _ rng1.out Try.underlying80 rfl HI.out ?_)
    refine (Put_Machine _ ts w1 hI1 hroom).mono ?_
    rw [show PutPost w1 ts = PutPost w1 ts from rfl]
    rintro e w2 ⟨hb2, ⟨F2, v2, rfl, o2⟩ | ⟨F2, rfl⟩⟩
    case inl => exact absurd (HF.out.symm.trans F2) F
    rw [HF.out]
    have hI2 : Is w2 (· < w2.heap.size) shMachine _ ts := hI1.keep (fun k hk => Nat.lt_of_lt_of_le hk hb2.size) (Keeps.of_below hb2 fun _ h => h)
    have H2 := Lib.hid ((hb2.block _ hlt1).trans H1.out)
    have rng2 := Lib.hid (box_range (cs := [.int .i64 n0_0, .int .i64 n0_1, .slice a0_2 l0_2 c0_2, .slice a0_3 l0_3 c0_3, .slice a0_4 l0_4 c0_4, .slice a0_5 l0_5 c0_5, .slice a0_6 l0_6 c0_6, .slice a1 l1 c1, .slice a2 l2 c2, .int .i64 n3]) H2.out)
    clear F2
    go_wp2_with (refine wpList_load_mid rfl 80 _ rfl w.heap.size 0 rfl _ _ rng2.out Try.underlying80 rfl HI.out ?_)
    refine (RefPut_Machine _ ts w2 hI2 hroom).mono ?_
    rintro e w3 ⟨hb3, ⟨F3, v3, rfl, o3⟩ | ⟨F3, rfl⟩⟩
    case inl => exact absurd (HF.out.symm.trans F3) F
    rw [HF.out]
    clear F3
    go_wp2_with fail
    refine (awake_any w3).mono ?_
    rintro e w4 ⟨rfl, hb4⟩
    have s4 := SNIL.out w4
    go_wp2_with fail
    go_ret
    exact ⟨rfl, hB1.trans (((hb2.trans (hb3.mono hb2.size)).trans (hb4.mono (Nat.le_trans hb2.size hb3.size))).mono hB1.size)⟩

end Go.Proofs.Ytbhpbiimfcdgaaa
