/-
  The statements on the bytes of records, commands, operations: the walks (made by wip/gen_wire.py)
-/
import Derived.Test.YtbhpbiimfcdgaaaWireH
import Derived.Test.YtbhpbiimfcdgaaaWireLd
namespace Go.Proofs.Ytbhpbiimfcdgaaa
open Go.RowKit
set_option linter.unusedVariables false

set_option maxRecDepth 100000 in
set_option maxHeartbeats 2000000 in
theorem walk_Records (cs : List Value) (ts : List Tok) (w : World) (hI : Is w (· < w.heap.size) shRecord cs ts) (hroom : Room [] ts) :
    Calls Try.prog 6 #[.agg cs.toArray] w fun e w' => e = .returned (.bool true) ∧ Below w.heap.size w w' := by
  have hI0 : Is (w.alloc (.cells cs.toArray 65)) (· < (w.alloc (.cells cs.toArray 65)).heap.size) shRecord cs ts := hI.keep (fun k hk => by simp; omega) (Keeps.refl.alloc _)
  have hb0 : Below w.heap.size w (w.alloc (.cells cs.toArray 65)) := (Below.refl _ _).alloc (Nat.le_refl _) _
  obtain ⟨n0, n1, n2, n3_0, n3_1, n3_2, a3_3_0, l3_3_0, c3_3_0, a3_3_1, l3_3_1, c3_3_1, s3_4, n4, n5_0, n5_1, a5_2_0, l5_2_0, c5_2_0, a5_2_1, l5_2_1, c5_2_1, s5_3, rfl⟩ := cells_Record hI
  have H0 := Lib.hid (heap_alloc_new w (.cells #[.int .i64 n0, .int .i64 n1, .int .i64 n2, .int .i64 n3_0, .int .i64 n3_1, .int .i64 n3_2, .slice a3_3_0 l3_3_0 c3_3_0, .slice a3_3_1 l3_3_1 c3_3_1, .string s3_4, .int .i64 n4, .int .i64 n5_0, .int .i64 n5_1, .slice a5_2_0 l5_2_0 c5_2_0, .slice a5_2_1 l5_2_1 c5_2_1, .string s5_3] 65))
  have rng0 := Lib.hid (box_range (cs := [.int .i64 n0, .int .i64 n1, .int .i64 n2, .int .i64 n3_0, .int .i64 n3_1, .int .i64 n3_2, .slice a3_3_0 l3_3_0 c3_3_0, .slice a3_3_1 l3_3_1 c3_3_1, .string s3_4, .int .i64 n4, .int .i64 n5_0, .int .i64 n5_1, .slice a5_2_0 l5_2_0 c5_2_0, .slice a5_2_1 l5_2_1 c5_2_1, .string s5_3]) H0.out)
  have hi : (Try.prog.info? 65).map (·.size) = some 15 := by kernel_rfl
  have HI := Lib.hid hi; clear hi
  have hlt : w.heap.size < (w.alloc (.cells #[.int .i64 n0, .int .i64 n1, .int .i64 n2, .int .i64 n3_0, .int .i64 n3_1, .int .i64 n3_2, .slice a3_3_0 l3_3_0 c3_3_0, .slice a3_3_1 l3_3_1 c3_3_1, .string s3_4, .int .i64 n4, .int .i64 n5_0, .int .i64 n5_1, .slice a5_2_0 l5_2_0 c5_2_0, .slice a5_2_1 l5_2_1 c5_2_1, .string s5_3] 65)).heap.size := by simp
  go_enter Try.func6, Try.ntmps6
  go_wp2_with (refine wpList_load_mid rfl 65 _ rfl w.heap.size 0 rfl _ _ rng0.out Try.underlying65 rfl HI.out ?_)
  refine (RefPut_Record _ ts _ hI0 hroom).mono ?_
  rintro e w1 ⟨hb1, h1⟩
  have hB1 := hb0.trans (hb1.mono hb0.size)
  have hI1 : Is w1 (· < w1.heap.size) shRecord _ ts := hI0.keep (fun k hk => Nat.lt_of_lt_of_le hk hb1.size) (Keeps.of_below hb1 fun _ h => h)
  have H1 := Lib.hid ((hb1.block _ hlt).trans H0.out)
  have rng1 := Lib.hid (box_range (cs := [.int .i64 n0, .int .i64 n1, .int .i64 n2, .int .i64 n3_0, .int .i64 n3_1, .int .i64 n3_2, .slice a3_3_0 l3_3_0 c3_3_0, .slice a3_3_1 l3_3_1 c3_3_1, .string s3_4, .int .i64 n4, .int .i64 n5_0, .int .i64 n5_1, .slice a5_2_0 l5_2_0 c5_2_0, .slice a5_2_1 l5_2_1 c5_2_1, .string s5_3]) H1.out)
  have hlt1 : w.heap.size < w1.heap.size := Nat.lt_of_lt_of_le hlt hb1.size
  rcases h1 with ⟨F, v1, rfl, o1⟩ | ⟨F, rfl⟩
  · obtain ⟨a1, c1, rfl, r1, l1⟩ := Rd.own o1
    have hBS : Hid ((bytesL ts).length = (bytesL ts).length) := Lib.hid rfl
    generalize hbs : bytesL ts = bs at *
    have HBS := Lib.hid hbs; clear hbs
    generalize hn : bs.length = n at *
    have HN := Lib.hid hn; clear hn
    clear o1 l1
    have F' := Lib.hid F; clear F
    by_cases hlen : 262144 < n
    · go_wp2_with fail
      go_ret
      exact ⟨rfl, hB1⟩
    · go_wp2_with (refine wpList_load_mid rfl 65 _ rfl w.heap.size 0 rfl _ _ rng1.out Try.underlying65 rfl HI.out ?_)
      refine (Put_Record _ ts w1 hI1 hroom).mono ?_
      rintro e w2 ⟨hb2, ⟨F2, v2, rfl, o2⟩ | ⟨F2, rfl⟩⟩
      case inr => exact absurd F'.out F2
      rw [HBS.out, HN.out] at o2
      obtain ⟨a2, c2, rfl, r2, l2⟩ := Rd.own o2
      clear o2 l2 F2
      have hI2 : Is w2 (· < w2.heap.size) shRecord _ ts := hI1.keep (fun k hk => Nat.lt_of_lt_of_le hk hb2.size) (Keeps.of_below hb2 fun _ h => h)
      have H2 := Lib.hid ((hb2.block _ hlt1).trans H1.out)
      have rng2 := Lib.hid (box_range (cs := [.int .i64 n0, .int .i64 n1, .int .i64 n2, .int .i64 n3_0, .int .i64 n3_1, .int .i64 n3_2, .slice a3_3_0 l3_3_0 c3_3_0, .slice a3_3_1 l3_3_1 c3_3_1, .string s3_4, .int .i64 n4, .int .i64 n5_0, .int .i64 n5_1, .slice a5_2_0 l5_2_0 c5_2_0, .slice a5_2_1 l5_2_1 c5_2_1, .string s5_3]) H2.out)
      go_wp2_with (refine wpList_load_mid rfl 65 _ rfl w.heap.size 0 rfl _ _ rng2.out Try.underlying65 rfl HI.out ?_)
      refine (RefPut_Record _ ts w2 hI2 hroom).mono ?_
      rintro e w3 ⟨hb3, ⟨F3, v3, rfl, o3⟩ | ⟨F3, rfl⟩⟩
      case inr => exact absurd F'.out F3
      rw [HBS.out, HN.out] at o3
      obtain ⟨a3, c3, rfl, r3, l3⟩ := Rd.own o3
      clear o3 l3 F3
      go_wp2_with fail
      refine (awake_any w3).mono ?_
      rintro e w4 ⟨rfl, hb4⟩
      have q1 := ((r1.below hb2 (Nat.le_refl _)).below hb3 hb2.size).below hb4 (Nat.le_trans hb2.size hb3.size)
      have q2 := (r2.below hb3 (Nat.le_refl _)).below hb4 hb3.size
      have q3 := r3.below hb4 (Nat.le_refl _)
      have s1 := run_string_of (P := Try.prog) q1 31 9 5 n c1 HN.out Try.underlying31 Try.underlying5 Try.underlying9
      have s2 := run_string_of (P := Try.prog) q2 31 9 5 n c2 HN.out Try.underlying31 Try.underlying5 Try.underlying9
      have s3 := run_string_of (P := Try.prog) q3 31 9 5 n c3 HN.out Try.underlying31 Try.underlying5 Try.underlying9
      clear q1 q2 q3
      go_wp2_with fail
      go_ret
      exact ⟨rfl, hB1.trans (((hb2.trans (hb3.mono hb2.size)).trans (hb4.mono (Nat.le_trans hb2.size hb3.size))).mono hB1.size)⟩
  · generalize hf : firstF ts = f at *
    have HF := Lib.hid hf; clear hf
    have snil : ∀ w : World, (convert 31 9 (.slice none 0 0)).run Try.prog w = .ok (.string ⟨#[]⟩) w := fun w => run_string_of (B := 0) (bs := []) (.inl rfl) 31 9 5 0 0 rfl Try.underlying31 Try.underlying5 Try.underlying9
    have SNIL := Lib.hid snil; clear snil
    go_wp2_with (refine wpList_load_mid rfl 65 _ rfl w.heap.size 0 rfl _ _ rng1.out Try.underlying65 rfl HI.out ?_)
    refine (Put_Record _ ts w1 hI1 hroom).mono ?_
    rw [show PutPost w1 ts = PutPost w1 ts from rfl]
    rintro e w2 ⟨hb2, ⟨F2, v2, rfl, o2⟩ | ⟨F2, rfl⟩⟩
    case inl => exact absurd (HF.out.symm.trans F2) F
    rw [HF.out]
    have hI2 : Is w2 (· < w2.heap.size) shRecord _ ts := hI1.keep (fun k hk => Nat.lt_of_lt_of_le hk hb2.size) (Keeps.of_below hb2 fun _ h => h)
    have H2 := Lib.hid ((hb2.block _ hlt1).trans H1.out)
    have rng2 := Lib.hid (box_range (cs := [.int .i64 n0, .int .i64 n1, .int .i64 n2, .int .i64 n3_0, .int .i64 n3_1, .int .i64 n3_2, .slice a3_3_0 l3_3_0 c3_3_0, .slice a3_3_1 l3_3_1 c3_3_1, .string s3_4, .int .i64 n4, .int .i64 n5_0, .int .i64 n5_1, .slice a5_2_0 l5_2_0 c5_2_0, .slice a5_2_1 l5_2_1 c5_2_1, .string s5_3]) H2.out)
    clear F2
    go_wp2_with (refine wpList_load_mid rfl 65 _ rfl w.heap.size 0 rfl _ _ rng2.out Try.underlying65 rfl HI.out ?_)
    refine (RefPut_Record _ ts w2 hI2 hroom).mono ?_
    rintro e w3 ⟨hb3, ⟨F3, v3, rfl, o3⟩ | ⟨F3, rfl⟩⟩
    case inl => exact absurd (HF.out.symm.trans F3) F
    rw [HF.out]
    clear F3
    go_wp2_with fail
    refine (awake_any w3).mono ?_
    rintro e w4 ⟨rfl, hb4⟩
    have s4 := SNIL.out w4
    go_wp2_with fail
    go_ret
    exact ⟨rfl, hB1.trans (((hb2.trans (hb3.mono hb2.size)).trans (hb4.mono (Nat.le_trans hb2.size hb3.size))).mono hB1.size)⟩

set_option maxRecDepth 100000 in
set_option maxHeartbeats 2000000 in
theorem walk_Commands (cs : List Value) (ts : List Tok) (w : World) (hI : Is w (· < w.heap.size) shCommand cs ts) (hroom : Room [] ts) :
    Calls Try.prog 3 #[.agg cs.toArray] w fun e w' => e = .returned (.bool true) ∧ Below w.heap.size w w' := by
  have hI0 : Is (w.alloc (.cells cs.toArray 30)) (· < (w.alloc (.cells cs.toArray 30)).heap.size) shCommand cs ts := hI.keep (fun k hk => by simp; omega) (Keeps.refl.alloc _)
  have hb0 : Below w.heap.size w (w.alloc (.cells cs.toArray 30)) := (Below.refl _ _).alloc (Nat.le_refl _) _
  obtain ⟨n0, s1, s2, s3, s4, s5, a6, l6, c6, s7_0, n7_1, a7_2, l7_2, c7_2, n7_3, n7_4, s7_5, s7_6, s7_7, n8, b9, rfl⟩ := cells_Command hI
  have H0 := Lib.hid (heap_alloc_new w (.cells #[.int .i64 n0, .string s1, .string s2, .string s3, .string s4, .string s5, .slice a6 l6 c6, .string s7_0, .int .i64 n7_1, .slice a7_2 l7_2 c7_2, .int .i64 n7_3, .int .i64 n7_4, .string s7_5, .string s7_6, .string s7_7, .int .i64 n8, .bool b9] 30))
  have rng0 := Lib.hid (box_range (cs := [.int .i64 n0, .string s1, .string s2, .string s3, .string s4, .string s5, .slice a6 l6 c6, .string s7_0, .int .i64 n7_1, .slice a7_2 l7_2 c7_2, .int .i64 n7_3, .int .i64 n7_4, .string s7_5, .string s7_6, .string s7_7, .int .i64 n8, .bool b9]) H0.out)
  have hi : (Try.prog.info? 30).map (·.size) = some 17 := by kernel_rfl
  have HI := Lib.hid hi; clear hi
  have hlt : w.heap.size < (w.alloc (.cells #[.int .i64 n0, .string s1, .string s2, .string s3, .string s4, .string s5, .slice a6 l6 c6, .string s7_0, .int .i64 n7_1, .slice a7_2 l7_2 c7_2, .int .i64 n7_3, .int .i64 n7_4, .string s7_5, .string s7_6, .string s7_7, .int .i64 n8, .bool b9] 30)).heap.size := by simp
  go_enter Try.func3, Try.ntmps3
  go_wp2_with (refine wpList_load_mid rfl 30 _ rfl w.heap.size 0 rfl _ _ rng0.out Try.underlying30 rfl HI.out ?_)
  refine (RefPut_Command _ ts _ hI0 hroom).mono ?_
  rintro e w1 ⟨hb1, h1⟩
  have hB1 := hb0.trans (hb1.mono hb0.size)
  have hI1 : Is w1 (· < w1.heap.size) shCommand _ ts := hI0.keep (fun k hk => Nat.lt_of_lt_of_le hk hb1.size) (Keeps.of_below hb1 fun _ h => h)
  have H1 := Lib.hid ((hb1.block _ hlt).trans H0.out)
  have rng1 := Lib.hid (box_range (cs := [.int .i64 n0, .string s1, .string s2, .string s3, .string s4, .string s5, .slice a6 l6 c6, .string s7_0, .int .i64 n7_1, .slice a7_2 l7_2 c7_2, .int .i64 n7_3, .int .i64 n7_4, .string s7_5, .string s7_6, .string s7_7, .int .i64 n8, .bool b9]) H1.out)
  have hlt1 : w.heap.size < w1.heap.size := Nat.lt_of_lt_of_le hlt hb1.size
  rcases h1 with ⟨F, v1, rfl, o1⟩ | ⟨F, rfl⟩
  · obtain ⟨a1, c1, rfl, r1, l1⟩ := Rd.own o1
    have hBS : Hid ((bytesL ts).length = (bytesL ts).length) := Lib.hid rfl
    generalize hbs : bytesL ts = bs at *
    have HBS := Lib.hid hbs; clear hbs
    generalize hn : bs.length = n at *
    have HN := Lib.hid hn; clear hn
    clear o1 l1
    have F' := Lib.hid F; clear F
    by_cases hlen : 262144 < n
    · go_wp2_with fail
      go_ret
      exact ⟨rfl, hB1⟩
    · go_wp2_with (refine wpList_load_mid rfl 30 _ rfl w.heap.size 0 rfl _ _ rng1.out Try.underlying30 rfl HI.out ?_)
      refine (Put_Command _ ts w1 hI1 hroom).mono ?_
      rintro e w2 ⟨hb2, ⟨F2, v2, rfl, o2⟩ | ⟨F2, rfl⟩⟩
      case inr => exact absurd F'.out F2
      rw [HBS.out, HN.out] at o2
      obtain ⟨a2, c2, rfl, r2, l2⟩ := Rd.own o2
      clear o2 l2 F2
      have hI2 : Is w2 (· < w2.heap.size) shCommand _ ts := hI1.keep (fun k hk => Nat.lt_of_lt_of_le hk hb2.size) (Keeps.of_below hb2 fun _ h => h)
      have H2 := Lib.hid ((hb2.block _ hlt1).trans H1.out)
      have rng2 := Lib.hid (box_range (cs := [.int .i64 n0, .string s1, .string s2, .string s3, .string s4, .string s5, .slice a6 l6 c6, .string s7_0, .int .i64 n7_1, .slice a7_2 l7_2 c7_2, .int .i64 n7_3, .int .i64 n7_4, .string s7_5, .string s7_6, .string s7_7, .int .i64 n8, .bool b9]) H2.out)
      go_wp2_with (refine wpList_load_mid rfl 30 _ rfl w.heap.size 0 rfl _ _ rng2.out Try.underlying30 rfl HI.out ?_)
      refine (RefPut_Command _ ts w2 hI2 hroom).mono ?_
      rintro e w3 ⟨hb3, ⟨F3, v3, rfl, o3⟩ | ⟨F3, rfl⟩⟩
      case inr => exact absurd F'.out F3
      rw [HBS.out, HN.out] at o3
      obtain ⟨a3, c3, rfl, r3, l3⟩ := Rd.own o3
      clear o3 l3 F3
      go_wp2_with fail
      refine (awake_any w3).mono ?_
      rintro e w4 ⟨rfl, hb4⟩
      have q1 := ((r1.below hb2 (Nat.le_refl _)).below hb3 hb2.size).below hb4 (Nat.le_trans hb2.size hb3.size)
      have q2 := (r2.below hb3 (Nat.le_refl _)).below hb4 hb3.size
      have q3 := r3.below hb4 (Nat.le_refl _)
      have s1 := run_string_of (P := Try.prog) q1 31 9 5 n c1 HN.out Try.underlying31 Try.underlying5 Try.underlying9
      have s2 := run_string_of (P := Try.prog) q2 31 9 5 n c2 HN.out Try.underlying31 Try.underlying5 Try.underlying9
      have s3 := run_string_of (P := Try.prog) q3 31 9 5 n c3 HN.out Try.underlying31 Try.underlying5 Try.underlying9
      clear q1 q2 q3
      go_wp2_with fail
      go_ret
      exact ⟨rfl, hB1.trans (((hb2.trans (hb3.mono hb2.size)).trans (hb4.mono (Nat.le_trans hb2.size hb3.size))).mono hB1.size)⟩
  · generalize hf : firstF ts = f at *
    have HF := Lib.hid hf; clear hf
    have snil : ∀ w : World, (convert 31 9 (.slice none 0 0)).run Try.prog w = .ok (.string ⟨#[]⟩) w := fun w => run_string_of (B := 0) (bs := []) (.inl rfl) 31 9 5 0 0 rfl Try.underlying31 Try.underlying5 Try.underlying9
    have SNIL := Lib.hid snil; clear snil
    go_wp2_with (refine wpList_load_mid rfl 30 _ rfl w.heap.size 0 rfl _ _ rng1.out Try.underlying30 rfl HI.out ?_)
    refine (Put_Command _ ts w1 hI1 hroom).mono ?_
    rw [show PutPost w1 ts = PutPost w1 ts from rfl]
    rintro e w2 ⟨hb2, ⟨F2, v2, rfl, o2⟩ | ⟨F2, rfl⟩⟩
    case inl => exact absurd (HF.out.symm.trans F2) F
    rw [HF.out]
    have hI2 : Is w2 (· < w2.heap.size) shCommand _ ts := hI1.keep (fun k hk => Nat.lt_of_lt_of_le hk hb2.size) (Keeps.of_below hb2 fun _ h => h)
    have H2 := Lib.hid ((hb2.block _ hlt1).trans H1.out)
    have rng2 := Lib.hid (box_range (cs := [.int .i64 n0, .string s1, .string s2, .string s3, .string s4, .string s5, .slice a6 l6 c6, .string s7_0, .int .i64 n7_1, .slice a7_2 l7_2 c7_2, .int .i64 n7_3, .int .i64 n7_4, .string s7_5, .string s7_6, .string s7_7, .int .i64 n8, .bool b9]) H2.out)
    clear F2
    go_wp2_with (refine wpList_load_mid rfl 30 _ rfl w.heap.size 0 rfl _ _ rng2.out Try.underlying30 rfl HI.out ?_)
    refine (RefPut_Command _ ts w2 hI2 hroom).mono ?_
    rintro e w3 ⟨hb3, ⟨F3, v3, rfl, o3⟩ | ⟨F3, rfl⟩⟩
    case inl => exact absurd (HF.out.symm.trans F3) F
    rw [HF.out]
    clear F3
    go_wp2_with fail
    refine (awake_any w3).mono ?_
    rintro e w4 ⟨rfl, hb4⟩
    have s4 := SNIL.out w4
    go_wp2_with fail
    go_ret
    exact ⟨rfl, hB1.trans (((hb2.trans (hb3.mono hb2.size)).trans (hb4.mono (Nat.le_trans hb2.size hb3.size))).mono hB1.size)⟩

set_option maxRecDepth 100000 in
set_option maxHeartbeats 2000000 in
theorem walk_Ops (cs : List Value) (ts : List Tok) (w : World) (hI : Is w (· < w.heap.size) shOp cs ts) (hroom : Room [] ts) :
    Calls Try.prog 8 #[.agg cs.toArray] w fun e w' => e = .returned (.bool true) ∧ Below w.heap.size w w' := by
  have hI0 : Is (w.alloc (.cells cs.toArray 72)) (· < (w.alloc (.cells cs.toArray 72)).heap.size) shOp cs ts := hI.keep (fun k hk => by simp; omega) (Keeps.refl.alloc _)
  have hb0 : Below w.heap.size w (w.alloc (.cells cs.toArray 72)) := (Below.refl _ _).alloc (Nat.le_refl _) _
  obtain ⟨n0, n1, n2, n3_0, s3_1, s3_2, s3_3, s3_4, s3_5, a3_6, l3_6, c3_6, s3_7_0, n3_7_1, a3_7_2, l3_7_2, c3_7_2, n3_7_3, n3_7_4, s3_7_5, s3_7_6, s3_7_7, n3_8, b3_9, n4, n5, n6, rfl⟩ := cells_Op hI
  have H0 := Lib.hid (heap_alloc_new w (.cells #[.int .i64 n0, .int .i64 n1, .int .i64 n2, .int .i64 n3_0, .string s3_1, .string s3_2, .string s3_3, .string s3_4, .string s3_5, .slice a3_6 l3_6 c3_6, .string s3_7_0, .int .i64 n3_7_1, .slice a3_7_2 l3_7_2 c3_7_2, .int .i64 n3_7_3, .int .i64 n3_7_4, .string s3_7_5, .string s3_7_6, .string s3_7_7, .int .i64 n3_8, .bool b3_9, .int .i64 n4, .int .i64 n5, .int .i64 n6] 72))
  have rng0 := Lib.hid (box_range (cs := [.int .i64 n0, .int .i64 n1, .int .i64 n2, .int .i64 n3_0, .string s3_1, .string s3_2, .string s3_3, .string s3_4, .string s3_5, .slice a3_6 l3_6 c3_6, .string s3_7_0, .int .i64 n3_7_1, .slice a3_7_2 l3_7_2 c3_7_2, .int .i64 n3_7_3, .int .i64 n3_7_4, .string s3_7_5, .string s3_7_6, .string s3_7_7, .int .i64 n3_8, .bool b3_9, .int .i64 n4, .int .i64 n5, .int .i64 n6]) H0.out)
  have hi : (Try.prog.info? 72).map (·.size) = some 23 := by kernel_rfl
  have HI := Lib.hid hi; clear hi
  have hlt : w.heap.size < (w.alloc (.cells #[.int .i64 n0, .int .i64 n1, .int .i64 n2, .int .i64 n3_0, .string s3_1, .string s3_2, .string s3_3, .string s3_4, .string s3_5, .slice a3_6 l3_6 c3_6, .string s3_7_0, .int .i64 n3_7_1, .slice a3_7_2 l3_7_2 c3_7_2, .int .i64 n3_7_3, .int .i64 n3_7_4, .string s3_7_5, .string s3_7_6, .string s3_7_7, .int .i64 n3_8, .bool b3_9, .int .i64 n4, .int .i64 n5, .int .i64 n6] 72)).heap.size := by simp
  go_enter Try.func8, Try.ntmps8
  go_wp2_with (refine wpList_load_mid rfl 72 _ rfl w.heap.size 0 rfl _ _ rng0.out Try.underlying72 rfl HI.out ?_)
  refine (RefPut_Op _ ts _ hI0 hroom).mono ?_
  rintro e w1 ⟨hb1, h1⟩
  have hB1 := hb0.trans (hb1.mono hb0.size)
  have hI1 : Is w1 (· < w1.heap.size) shOp _ ts := hI0.keep (fun k hk => Nat.lt_of_lt_of_le hk hb1.size) (Keeps.of_below hb1 fun _ h => h)
  have H1 := Lib.hid ((hb1.block _ hlt).trans H0.out)
  have rng1 := Lib.hid (box_range (cs := [.int .i64 n0, .int .i64 n1, .int .i64 n2, .int .i64 n3_0, .string s3_1, .string s3_2, .string s3_3, .string s3_4, .string s3_5, .slice a3_6 l3_6 c3_6, .string s3_7_0, .int .i64 n3_7_1, .slice a3_7_2 l3_7_2 c3_7_2, .int .i64 n3_7_3, .int .i64 n3_7_4, .string s3_7_5, .string s3_7_6, .string s3_7_7, .int .i64 n3_8, .bool b3_9, .int .i64 n4, .int .i64 n5, .int .i64 n6]) H1.out)
  have hlt1 : w.heap.size < w1.heap.size := Nat.lt_of_lt_of_le hlt hb1.size
  rcases h1 with ⟨F, v1, rfl, o1⟩ | ⟨F, rfl⟩
  · obtain ⟨a1, c1, rfl, r1, l1⟩ := Rd.own o1
    have hBS : Hid ((bytesL ts).length = (bytesL ts).length) := Lib.hid rfl
    generalize hbs : bytesL ts = bs at *
    have HBS := Lib.hid hbs; clear hbs
    generalize hn : bs.length = n at *
    have HN := Lib.hid hn; clear hn
    clear o1 l1
    have F' := Lib.hid F; clear F
    by_cases hlen : 262144 < n
    · go_wp2_with fail
      go_ret
      exact ⟨rfl, hB1⟩
    · go_wp2_with (refine wpList_load_mid rfl 72 _ rfl w.heap.size 0 rfl _ _ rng1.out Try.underlying72 rfl HI.out ?_)
      refine (Put_Op _ ts w1 hI1 hroom).mono ?_
      rintro e w2 ⟨hb2, ⟨F2, v2, rfl, o2⟩ | ⟨F2, rfl⟩⟩
      case inr => exact absurd F'.out F2
      rw [HBS.out, HN.out] at o2
      obtain ⟨a2, c2, rfl, r2, l2⟩ := Rd.own o2
      clear o2 l2 F2
      have hI2 : Is w2 (· < w2.heap.size) shOp _ ts := hI1.keep (fun k hk => Nat.lt_of_lt_of_le hk hb2.size) (Keeps.of_below hb2 fun _ h => h)
      have H2 := Lib.hid ((hb2.block _ hlt1).trans H1.out)
      have rng2 := Lib.hid (box_range (cs := [.int .i64 n0, .int .i64 n1, .int .i64 n2, .int .i64 n3_0, .string s3_1, .string s3_2, .string s3_3, .string s3_4, .string s3_5, .slice a3_6 l3_6 c3_6, .string s3_7_0, .int .i64 n3_7_1, .slice a3_7_2 l3_7_2 c3_7_2, .int .i64 n3_7_3, .int .i64 n3_7_4, .string s3_7_5, .string s3_7_6, .string s3_7_7, .int .i64 n3_8, .bool b3_9, .int .i64 n4, .int .i64 n5, .int .i64 n6]) H2.out)
      go_wp2_with (refine wpList_load_mid rfl 72 _ rfl w.heap.size 0 rfl _ _ rng2.out Try.underlying72 rfl HI.out ?_)
      refine (RefPut_Op _ ts w2 hI2 hroom).mono ?_
      rintro e w3 ⟨hb3, ⟨F3, v3, rfl, o3⟩ | ⟨F3, rfl⟩⟩
      case inr => exact absurd F'.out F3
      rw [HBS.out, HN.out] at o3
      obtain ⟨a3, c3, rfl, r3, l3⟩ := Rd.own o3
      clear o3 l3 F3
      go_wp2_with fail
      refine (awake_any w3).mono ?_
      rintro e w4 ⟨rfl, hb4⟩
      have q1 := ((r1.below hb2 (Nat.le_refl _)).below hb3 hb2.size).below hb4 (Nat.le_trans hb2.size hb3.size)
      have q2 := (r2.below hb3 (Nat.le_refl _)).below hb4 hb3.size
      have q3 := r3.below hb4 (Nat.le_refl _)
      have s1 := run_string_of (P := Try.prog) q1 31 9 5 n c1 HN.out Try.underlying31 Try.underlying5 Try.underlying9
      have s2 := run_string_of (P := Try.prog) q2 31 9 5 n c2 HN.out Try.underlying31 Try.underlying5 Try.underlying9
      have s3 := run_string_of (P := Try.prog) q3 31 9 5 n c3 HN.out Try.underlying31 Try.underlying5 Try.underlying9
      clear q1 q2 q3
      go_wp2_with fail
      go_ret
      exact ⟨rfl, hB1.trans (((hb2.trans (hb3.mono hb2.size)).trans (hb4.mono (Nat.le_trans hb2.size hb3.size))).mono hB1.size)⟩
  · generalize hf : firstF ts = f at *
    have HF := Lib.hid hf; clear hf
    have snil : ∀ w : World, (convert 31 9 (.slice none 0 0)).run Try.prog w = .ok (.string ⟨#[]⟩) w := fun w => run_string_of (B := 0) (bs := []) (.inl rfl) 31 9 5 0 0 rfl Try.underlying31 Try.underlying5 Try.underlying9
    have SNIL := Lib.hid snil; clear snil
    go_wp2_with (refine wpList_load_mid rfl 72 _ rfl w.heap.size 0 rfl _ _ rng1.out Try.underlying72 rfl HI.out ?_)
    refine (Put_Op _ ts w1 hI1 hroom).mono ?_
    rw [show PutPost w1 ts = PutPost w1 ts from rfl]
    rintro e w2 ⟨hb2, ⟨F2, v2, rfl, o2⟩ | ⟨F2, rfl⟩⟩
    case inl => exact absurd (HF.out.symm.trans F2) F
    rw [HF.out]
    have hI2 : Is w2 (· < w2.heap.size) shOp _ ts := hI1.keep (fun k hk => Nat.lt_of_lt_of_le hk hb2.size) (Keeps.of_below hb2 fun _ h => h)
    have H2 := Lib.hid ((hb2.block _ hlt1).trans H1.out)
    have rng2 := Lib.hid (box_range (cs := [.int .i64 n0, .int .i64 n1, .int .i64 n2, .int .i64 n3_0, .string s3_1, .string s3_2, .string s3_3, .string s3_4, .string s3_5, .slice a3_6 l3_6 c3_6, .string s3_7_0, .int .i64 n3_7_1, .slice a3_7_2 l3_7_2 c3_7_2, .int .i64 n3_7_3, .int .i64 n3_7_4, .string s3_7_5, .string s3_7_6, .string s3_7_7, .int .i64 n3_8, .bool b3_9, .int .i64 n4, .int .i64 n5, .int .i64 n6]) H2.out)
    clear F2
    go_wp2_with (refine wpList_load_mid rfl 72 _ rfl w.heap.size 0 rfl _ _ rng2.out Try.underlying72 rfl HI.out ?_)
    refine (RefPut_Op _ ts w2 hI2 hroom).mono ?_
    rintro e w3 ⟨hb3, ⟨F3, v3, rfl, o3⟩ | ⟨F3, rfl⟩⟩
    case inl => exact absurd (HF.out.symm.trans F3) F
    rw [HF.out]
    clear F3
    go_wp2_with fail
    refine (awake_any w3).mono ?_
    rintro e w4 ⟨rfl, hb4⟩
    have s4 := SNIL.out w4
    go_wp2_with fail
    go_ret
    exact ⟨rfl, hB1.trans (((hb2.trans (hb3.mono hb2.size)).trans (hb4.mono (Nat.le_trans hb2.size hb3.size))).mono hB1.size)⟩

end Go.Proofs.Ytbhpbiimfcdgaaa
