/-
  Layer 3's statements, walked: a thing's bytes with more behind them, or without the last one (made by wip/gen_wire.py)
-/
import Derived.Test.YtbhpbiimfcdgaaaWireLaw5
import Derived.Deep.AppendLies
namespace Go.Proofs.Ytbhpbiimfcdgaaa
open Go.RowKit
set_option linter.unusedVariables false

theorem own_on {w w' : World} {base : Nat} {e : TypeId} {size : Nat} {v : Value} {n : Nat} {xs : List Value} (h : w.ownsRow base e size v n xs) (hb : Below w.heap.size w w') : w'.ownsRow base e size v n xs := by
  rcases h with ⟨hl, h | ⟨g, cap, cur, h1, h2, h3, h4⟩⟩
  · exact ⟨hl, .inl h⟩
  · exact ⟨hl, .inr ⟨g, cap, cur, h1, h2, (hb.block g (lt_of_block h3)).trans h3, h4⟩⟩
theorem parse_nil : parse shMachine [] = none := by rfl
theorem laid_some {ts : List Tok} {w : World} {St : Nat → Prop} {cs : List Value} (hI : Is w St shMachine cs ts) (F : firstF ts = 0) : 1 ≤ (bytesL ts).length := by
  rcases Nat.eq_zero_or_pos (bytesL ts).length with h | h
  · have h1 := parse_same hI F
    rw [List.eq_nil_of_length_eq_zero h, parse_nil] at h1
    cases h1
  · exact h
theorem parse_less {ts : List Tok} {w : World} {St : Nat → Prop} {cs : List Value} (hI : Is w St shMachine cs ts) (F : firstF ts = 0) (us : List Tok) : parse shMachine ((bytesL ts).take ((bytesL ts).length - 1)) ≠ some (us, []) := by
  intro h
  have hl := laid_some hI F
  obtain ⟨h1, h2, h3⟩ := parse_some shMachine _ _ _ h
  rw [List.append_nil] at h1
  have h4 := parse_lay shMachine us ((bytesL ts).drop ((bytesL ts).length - 1)) h3 h2
  rw [h1, List.take_append_drop, parse_same hI F] at h4
  have h5 := congrArg (fun x => (x.map fun y => y.2.length)) h4
  simp at h5
  omega
theorem parse_extra {ts : List Tok} {w : World} {St : Nat → Prop} {cs : List Value} (hI : Is w St shMachine cs ts) (F : firstF ts = 0) {more : List UInt8} (hm : more ≠ []) (us : List Tok) : parse shMachine (bytesL ts ++ more) ≠ some (us, []) := by
  intro h
  rw [parse_lay shMachine ts more hI.fit F] at h
  simp at h
  exact hm h.2
theorem last_same {ts : List Tok} {w w' : World} {St St' : Nat → Prop} {cs cs' : List Value} (h : Is w St shMachine cs ts) (h' : Is w' St' shMachine cs' ts) : ∃ n : Int, cs[9]? = some (.int .i64 n) ∧ cs'[9]? = some (.int .i64 n) := by
  obtain ⟨n0_0, n0_1, a0_2, l0_2, c0_2, a0_3, l0_3, c0_3, a0_4, l0_4, c0_4, a0_5, l0_5, c0_5, a0_6, l0_6, c0_6, a1, l1, c1, a2, l2, c2, n3, t0, t1, t2, rfl, e, _⟩ := open_Machine h
  obtain ⟨yn0_0, yn0_1, ya0_2, yl0_2, yc0_2, ya0_3, yl0_3, yc0_3, ya0_4, yl0_4, yc0_4, ya0_5, yl0_5, yc0_5, ya0_6, yl0_6, yc0_6, ya1, yl1, yc1, ya2, yl2, yc2, yn3, yt0, yt1, yt2, rfl, e', _⟩ := open_Machine h'
  refine ⟨n3, rfl, ?_⟩
  rw [e'] at e
  have h1 := congrArg List.getLast? e
  simp only [List.getLast?_append, List.getLast?_singleton, Option.some_or, Option.some.injEq, Tok.num.injEq] at h1
  rw [← h1]; rfl

set_option maxRecDepth 100000 in
set_option maxHeartbeats 16000000 in
theorem walk_more (cm : List Value) (tm : List Tok) (a2 : Option Addr) (n2 cap2 : Nat) (more : List UInt8) (w : World)
    (hI : Is w (· < w.heap.size) shMachine cm tm) (hR : Room [] tm) (hl2 : more.length = n2) (hr2 : Rd w w.heap.size a2 (cb more)) (hc2 : n2 ≤ cap2) (hm2 : cap2 ≤ maxLen) :
    Calls Try.prog 12 #[.agg cm.toArray, .slice a2 n2 cap2] w fun e w' => e = .returned (.bool true) ∧ Below w.heap.size w w' := by
  obtain ⟨i0, hi, hz0, hz1, hz2⟩ := info_parts info_byte'
  unfold maxLen at hm2
  have HL2 := Lib.hid hl2; clear hl2
  have hii : (Try.prog.info? 80).map (·.size) = some 10 := by kernel_rfl
  have HI := Lib.hid hii; clear hii
  have hz : cm.length = 10 := hI.size
  have HC : Hid ((Try.prog.info? 80).map (·.size) = some cm.length) := Lib.hid (by rw [HI.out, hz])
  clear hz
  have hi0 : Hid ((Try.prog.info? 80).map (·.size) = some (#[.int .i64 0, .int .i64 0, .slice none 0 0, .slice none 0 0, .slice none 0 0, .slice none 0 0, .slice none 0 0, .slice none 0 0, .slice none 0 0, .int .i64 0] : Array Value).size) := Lib.hid (by rw [HI.out]; rfl)
  have h10 : Hid ((#[.int .i64 0, .int .i64 0, .slice none 0 0, .slice none 0 0, .slice none 0 0, .slice none 0 0, .slice none 0 0, .slice none 0 0, .slice none 0 0, .int .i64 0] : Array Value).all (·.oneCell') = true) := Lib.hid (by kernel_rfl)
  have hb0 := (Below.refl w.heap.size w).alloc (Nat.le_refl _) (.cells cm.toArray 80)
  have hB0 := heap_alloc_new w (.cells cm.toArray 80)
  have hJ := is_in hI hb0
  have rng := Lib.hid (box_range hB0)
  go_enter Try.func12, Try.ntmps12
  go_wp2_with (refine wpList_load_mid rfl 80 _ rfl (w.heap.size) 0 rfl _ _ rng.out Try.underlying80 rfl HC.out ?_)
  clear rng
  obtain ⟨W0, hW0⟩ : ∃ u, u = w.alloc (.cells cm.toArray 80) := ⟨_, rfl⟩
  rw [← hW0] at hb0 hB0 hJ ⊢
  clear hW0
  have HB0 := Lib.hid hB0; clear hB0
  refine (Put_Machine cm tm W0 hJ hR).mono ?_
  rintro e w1 ⟨hb1, ⟨F, v, rfl, ho⟩ | ⟨F, rfl⟩⟩
  case inr =>
    have hB1 := hb0.trans (hb1.mono hb0.size)
    generalize firstF tm = k at *
    have q : ((k != 0) : Bool) = true := by simpa using F
    go_wp2_with fail
    refine (awake_any w1).mono ?_
    rintro e w4 ⟨rfl, hb4⟩
    go_wp2
    go_ret
    exact ⟨rfl, hB1.trans (hb4.mono hB1.size)⟩
  have hB1 := hb0.trans (hb1.mono hb0.size)
  have HB1 := Lib.hid (box_in HB0.out hb1)
  have hlen := laid_some hI F
  have hless := fun us => parse_less hI F us
  have hsame := parse_same hI F
  have hmo := fun h us => parse_extra hI F (more := more) h us
  have hbs : bytesL tm = bytesL tm := rfl
  have hlast := fun (w' : World) (St' : Nat → Prop) (cs' : List Value) (h' : Is w' St' shMachine cs' tm) => last_same hI h'
  have HLAST := Lib.hid hlast; clear hlast
  clear hI hJ hbs
  generalize bytesL tm = bs at *
  generalize hn : bs.length = n at *
  have HN := Lib.hid hn; clear hn
  have HLESS := Lib.hid hless; clear hless
  have HSAME := Lib.hid hsame; clear hsame
  have HMO := Lib.hid hmo; clear hmo
  have HF := Lib.hid F; clear F
  obtain ⟨g, cap, rfl, hg1, hg2⟩ := World.ownsRow.form ho (by omega)
  have hcap : n ≤ cap ∧ cap ≤ maxLen := by
    rcases ho.2 with ⟨e1, e2⟩ | ⟨g', cap', cur, e1, _, _, h3, h4, _⟩
    · cases e1
    · cases e1; exact ⟨h3, h4⟩
  have hcapm := hcap.2
  unfold maxLen at hcapm
  by_cases h1 : n ≤ 262144
  case neg =>
    have q : (262144 : Int) < (n : Int) := by omega
    go_wp2_with fail
    refine (awake_any w1).mono ?_
    rintro e w4 ⟨rfl, hb4⟩
    go_wp2
    go_ret
    exact ⟨rfl, hB1.trans (hb4.mono hB1.size)⟩
  by_cases h2 : n2 ≤ 262144
  case neg =>
    have q : (262144 : Int) < (n2 : Int) := by omega
    go_wp2_with fail
    refine (awake_any w1).mono ?_
    rintro e w4 ⟨rfl, hb4⟩
    go_wp2
    go_ret
    exact ⟨rfl, hB1.trans (hb4.mono hB1.size)⟩
  by_cases h3 : n2 = 0
  case pos =>
    subst h3
    go_wp2_with fail
    refine (awake_any w1).mono ?_
    rintro e w4 ⟨rfl, hb4⟩
    go_wp2
    go_ret
    exact ⟨rfl, hB1.trans (hb4.mono hB1.size)⟩
  have q3 : ((n2 : Int) == 0) = false := by simp; omega
  have q4 : ¬ (n : Int) < 1 := by omega
  have hmne : more ≠ [] := by intro h; have := HL2.out; rw [h] at this; simp at this; omega
  have HMNE := Lib.hid hmne; clear hmne
  obtain ⟨j, hj⟩ : ∃ j, n - 1 = j := ⟨_, rfl⟩
  have q5 : (n : Int) - 1 = (j : Int) := by omega
  have q6 : j ≤ n := by omega
  have q7 : j ≤ cap := by omega
  obtain ⟨a', c', he, hrd, _⟩ := Rd.own ho
  cases he
  have hrj := hrd.take j
  rw [cb_take] at hrj
  have hjl : (bs.take j).length = j := by rw [List.length_take, HN.out]; omega
  have HJL := Lib.hid hjl; clear hjl
  have HLJ : Hid (∀ us, parse shMachine (bs.take j) ≠ some (us, [])) := Lib.hid (fun us => by have := HLESS.out us; rwa [hj] at this)
  have HJ := Lib.hid hj; clear hj
  clear HLESS
  go_wp2_with fail
  refine (Get_Machine _ j cap (bs.take j) w1 HJL.out hrj.rdS q7 hcap.2).mono ?_
  rintro e w2 ⟨hb2, ⟨us, cs, P, rfl, I⟩ | ⟨_, rfl⟩⟩
  case inl => exact absurd P (HLJ.out us)
  clear hrj
  obtain ⟨V2, hV2⟩ : ∃ u, u = w2.alloc (.cells #[.int .i64 0, .int .i64 0, .slice none 0 0, .slice none 0 0, .slice none 0 0, .slice none 0 0, .slice none 0 0, .slice none 0 0, .slice none 0 0, .int .i64 0] 80) := ⟨_, rfl⟩
  have bb2 : Below w1.heap.size w1 V2 := by rw [hV2]; exact hb2.alloc hb2.size _
  have HV2 := Lib.hid hV2; clear hV2
  go_wp2_with (refine wpList_store_last w2 rfl 80 _ _ rfl 80 #[.int .i64 0, .int .i64 0, .slice none 0 0, .slice none 0 0, .slice none 0 0, .slice none 0 0, .slice none 0 0, .slice none 0 0, .slice none 0 0, .int .i64 0] #[.int .i64 0, .int .i64 0, .slice none 0 0, .slice none 0 0, .slice none 0 0, .slice none 0 0, .slice none 0 0, .slice none 0 0, .slice none 0 0, .int .i64 0] w2.heap.size rfl rfl rfl hi0.out rfl h10.out ?_)
  rw [← HV2.out]
  have hrd2 := (hrd.below bb2 (Nat.le_refl _)).more bb2.size
  refine (Get_Machine _ n cap bs V2 HN.out hrd2.rdS hcap.1 hcap.2).mono ?_
  rintro e w3 ⟨hb3, ⟨us, cs, P, rfl, I⟩ | ⟨P, rfl⟩⟩
  case inr => exact absurd HSAME.out (P _)
  have hu : us = tm := by have h := HSAME.out; rw [h] at P; simpa using P.symm
  rw [hu] at I; clear hu P us
  obtain ⟨L, hcm9, hcs9⟩ := HLAST.out _ _ _ I
  have sz : cs.length = 10 := I.size
  have hs3 : Hid ((#[.int .i64 0, .int .i64 0, .slice none 0 0, .slice none 0 0, .slice none 0 0, .slice none 0 0, .slice none 0 0, .slice none 0 0, .slice none 0 0, .int .i64 0] : Array Value).size = cs.toArray.size) := Lib.hid (show (10 : Nat) = cs.toArray.size by rw [List.size_toArray, sz])
  have hi3 : Hid ((Try.prog.info? 80).map (·.size) = some cs.toArray.size) := Lib.hid (by rw [HI.out, List.size_toArray, sz])
  have h13 := Lib.hid (all_oneCell_toArray I.oneCell)
  have HCM9 := Lib.hid hcm9; have HCS9 := Lib.hid hcs9
  clear sz I hcm9 hcs9
  obtain ⟨V3, hV3⟩ : ∃ u, u = w3.alloc (.cells cs.toArray 80) := ⟨_, rfl⟩
  have bb3 : Below V2.heap.size V2 V3 := by rw [hV3]; exact hb3.alloc hb3.size _
  have bx3 : Hid (V3.heap[w3.heap.size]? = some (.cells cs.toArray 80 (0, 0))) := Lib.hid (by rw [hV3]; exact heap_alloc_new _ _)
  have b13 := bb2.trans (bb3.mono bb2.size)
  have ho3 := own_on ho b13
  have hB3 := hB1.trans (b13.mono hB1.size)
  have hr23 := hr2.below hB3 (Nat.le_refl _)
  have hW3 : W0.heap.size ≤ V3.heap.size := Nat.le_trans hb1.size b13.size
  have b03 := hb1.trans (b13.mono hb1.size)
  have ho3' := ho3
  have hr23' := hr23
  rw [hV3] at ho3' hr23'
  have hW3' := hW3
  rw [hV3] at hW3'
  have HV3 := Lib.hid hV3; clear hV3
  have hhs : Hid (w3.alloc (.cells cs.toArray 80) = V3) := Lib.hid HV3.out.symm
  go_wp2_with (first
    | (refine wpList_store_last w3 rfl 80 _ _ rfl 80 #[.int .i64 0, .int .i64 0, .slice none 0 0, .slice none 0 0, .slice none 0 0, .slice none 0 0, .slice none 0 0, .slice none 0 0, .slice none 0 0, .int .i64 0] cs.toArray w3.heap.size rfl rfl rfl hi3.out hs3.out h13.out ?_)
    | (at_builtin; refine wpList_append_rd_at rfl _ _ 31 rfl W0.heap.size 5 i0 (.int .u8 0) 1 Try.underlying31 hi hz0 hz1 hz2 rfl _ n (cb bs) rfl ho3' w.heap.size _ n2 cap2 (cb more) rfl hr23' ?c1 (cb_one _) ?c2 ?c3 hW3' ?_))
  case c1 => rw [length_cb, HL2.out]
  case c2 => unfold maxLen; omega
  case c3 => omega
  intro o4 w4 hown4 hgrow4 hat4
  rw [hhs.out] at hgrow4
  rw [← cb_append] at hown4
  have b04 : Below W0.heap.size W0 w4 := b03.grown hgrow4 b03.size (fun k hk => (ho3.lt k hk).1)
  have hg3 : g < w1.heap.size := hg2
  have bx4 : Hid (w4.heap[w3.heap.size]? = some (.cells cs.toArray 80 (0, 0))) :=
    Lib.hid ((hgrow4.block w3.heap.size (lt_of_block bx3.out) (fun e => by simp only [Value.ownBlock, Option.some.injEq] at e; have := bb2.size; have := hb3.size; omega)).trans bx3.out)
  have HB4 := Lib.hid (box_in HB0.out b04)
  have hB4 := hb0.trans (b04.mono hb0.size)
  obtain ⟨a4, c4, rfl, hr4, _⟩ := Rd.own hown4
  have hcap4 : n + n2 ≤ c4 ∧ c4 ≤ maxLen := by
    rcases hown4.2 with ⟨e1, e2⟩ | ⟨g', cap', cur, e1, _, _, h3, h4, _⟩
    · simp only [Value.slice.injEq] at e1
      omega
    · simp only [Value.slice.injEq] at e1
      obtain ⟨_, _, e4⟩ := e1
      rw [e4]; exact ⟨h3, h4⟩
  have hcl : (bs ++ more).length = n + n2 := by rw [List.length_append, HN.out, HL2.out]
  have HCL := Lib.hid hcl; clear hcl
  clear hown4 hgrow4 hat4 ho3 ho3' ho hr23 hr23' hrd hrd2
  go_wp2_with fail
  refine (Get_Machine a4 (n + n2) c4 (bs ++ more) w4 HCL.out hr4.rdS hcap4.1 hcap4.2).mono ?_
  rintro e w5 ⟨hb5, ⟨us, cs5, P, rfl, I⟩ | ⟨_, rfl⟩⟩
  case inl => exact absurd P (HMO.out HMNE.out us)
  obtain ⟨V5, hV5⟩ : ∃ u, u = w5.alloc (.cells #[.int .i64 0, .int .i64 0, .slice none 0 0, .slice none 0 0, .slice none 0 0, .slice none 0 0, .slice none 0 0, .slice none 0 0, .slice none 0 0, .int .i64 0] 80) := ⟨_, rfl⟩
  have bb5 : Below w4.heap.size w4 V5 := by rw [hV5]; exact hb5.alloc hb5.size _
  have HV5 := Lib.hid hV5; clear hV5
  go_wp2_with (refine wpList_store_last w5 rfl 80 _ _ rfl 80 #[.int .i64 0, .int .i64 0, .slice none 0 0, .slice none 0 0, .slice none 0 0, .slice none 0 0, .slice none 0 0, .slice none 0 0, .slice none 0 0, .int .i64 0] #[.int .i64 0, .int .i64 0, .slice none 0 0, .slice none 0 0, .slice none 0 0, .slice none 0 0, .slice none 0 0, .slice none 0 0, .slice none 0 0, .int .i64 0] w5.heap.size rfl rfl rfl hi0.out rfl h10.out ?_)
  rw [← HV5.out]
  refine (awake_any V5).mono ?_
  rintro e w6 ⟨rfl, hb6⟩
  have b46 := bb5.trans (hb6.mono bb5.size)
  have x6 : w6.cell? ⟨w3.heap.size, 9, none⟩ = some (.int .i64 L) := by
    rw [cell_of_row _ _ 9 _ _ _ (box_in bx4.out b46)]; simpa using HCS9.out
  have m6 : w6.cell? ⟨w.heap.size, 9, none⟩ = some (.int .i64 L) := by
    rw [cell_of_row _ _ 9 _ _ _ (box_in HB4.out b46)]; simpa using HCM9.out
  have hB6 := hB4.trans (b46.mono hB4.size)
  go_wp2
  go_ret
  exact ⟨rfl, hB6⟩
end Go.Proofs.Ytbhpbiimfcdgaaa
