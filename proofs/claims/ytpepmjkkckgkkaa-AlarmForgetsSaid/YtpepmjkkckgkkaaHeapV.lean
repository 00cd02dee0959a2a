/-
  container/heap's Push, Pop, Fix and Remove over a queue of the program's own.
-/
import Derived.Test.YtpepmjkkckgkkaaHeapU
namespace Go.Proofs.Ytpepmjkkckgkkaa
open Go.RowKit

theorem take_last {L : List Due} {m : Nat} (h : L.length = m + 1) : L = L.take m ++ [at_ L m] := by
  rw [at_get (by omega)]
  conv => lhs; rw [← List.take_length (l := L), h]
  exact List.take_succ_eq_append_getElem (by omega)

/-- What is left when one is taken out. -/
structure Taken (L L' : List Due) (x : Due) : Prop where
  perm : L.Perm (x :: L')
  heap : Heap L' L'.length
theorem taken_of {L L2 : List Due} {m i : Nat} (hl : L.length = m + 1) (hi : i ≤ m) (hp : L2.Perm (sw L i m)) (hh : Heap L2 m) (hk : ∀ k, m ≤ k → at_ L2 k = at_ (sw L i m) k) : L2 = L2.take m ++ [at_ L i] ∧ Taken L (L2.take m) (at_ L i) := by
  have p1 : L2.Perm L := hp.trans (sw_perm (by omega) (by omega))
  have l2 : L2.length = m + 1 := p1.length_eq.trans hl
  have hx : at_ L2 m = at_ L i := by rw [hk m (Nat.le_refl _), at_sw (by omega) (by omega), if_pos rfl]
  have e := take_last l2
  rw [hx] at e
  refine ⟨e, ⟨?_, heap_take hh (by omega)⟩⟩
  have : (L2.take m ++ [at_ L i]).Perm L := e ▸ p1
  exact this.symm.trans (List.perm_append_comm)

set_option maxHeartbeats 1000000 in
theorem heap_push_any {a : Addr} {Q : World → List Due → Prop} {T : World → World → Prop} {B : World → Due → Value → Prop} (D : Does a Q T B) (w : World) (L : List Due) (x : Due) (v : Value) (hq : Q w L) (hb : B w x v) (hx : ∀ y ∈ L, y.2 ≠ x.2) (hl : L.length ≤ 100000) (hh : Heap L L.length) :
    Calls Try.prog 19 #[.iface 54 (.pointer (some a)), v] w fun e w' => e = .returned (.tuple #[]) ∧ ∃ L', Q w' L' ∧ L'.Perm (x :: L) ∧ Heap L' L'.length ∧ T w w' := by
  have HD := Lib.hid D; clear D
  have HH := Lib.hid hh; clear hh
  have mN := fun n w => method_len n a w
  have mP := fun n w => method_push n a w
  go_enter Try.func19, Try.ntmps19
  go_wp2_with fail
  refine (HD.out.push w L x v hq hb hl hx).mono ?_
  rintro e w1 ⟨rfl, hq1, ht1⟩
  go_wp2_with fail
  refine (HD.out.len w1 _ hq1).mono ?_
  rintro e w2 ⟨rfl, hq2, ht2⟩
  rw [List.length_append, List.length_singleton]
  go_wp2_with fail
  refine (up_any HD.out w2 (L ++ [x]) (L.length + 1) L.length hq2 (by simp) (by omega) (push_up HH.out)).mono ?_
  rintro e w3 ⟨rfl, L3, hq3, hp3, hh3, _, ht3⟩
  go_wp2_with fail
  refine bodyPost_end (results_none rfl _ _ _) rfl ?_
  have hl3 : L3.length = L.length + 1 := by rw [hp3.length_eq]; simp
  exact ⟨rfl, L3, hq3, hp3.trans List.perm_append_comm, hl3 ▸ hh3, HD.out.trans (HD.out.trans ht1 ht2) ht3⟩

set_option maxHeartbeats 1000000 in
theorem heap_fix_any {a : Addr} {Q : World → List Due → Prop} {T : World → World → Prop} {B : World → Due → Value → Prop} (D : Does a Q T B) (w : World) (L : List Due) (i : Nat) (hq : Q w L) (hi : i < L.length) (hu : Hole L L.length i) :
    Calls Try.prog 20 #[.iface 54 (.pointer (some a)), .int .i64 i] w fun e w' => e = .returned (.tuple #[]) ∧ ∃ L', Q w' L' ∧ L'.Perm L ∧ Heap L' L'.length ∧ T w w' := by
  have HD := Lib.hid D; clear D
  have HU := Lib.hid hu; clear hu
  have mN := fun n w => method_len n a w
  go_enter Try.func20, Try.ntmps20
  go_wp2_with fail
  refine (HD.out.len w L hq).mono ?_
  rintro e w1 ⟨rfl, hq1, ht1⟩
  go_wp2_with fail
  refine (down_any HD.out w1 L L.length i hq1 (Nat.le_refl _) (by omega) HU.out).mono ?_
  rintro e w2 ⟨b, L2, rfl, hq2, hp2, ⟨rfl, hh⟩ | ⟨rfl, hup⟩, _, ht2⟩
  · go_wp2_with fail
    refine bodyPost_end (results_none rfl _ _ _) rfl ?_
    exact ⟨rfl, L2, hq2, hp2, hp2.length_eq ▸ hh, HD.out.trans ht1 ht2⟩
  · have HP := Lib.hid hup; clear hup
    go_wp2_with fail
    refine (up_any HD.out w2 L2 L.length i hq2 (by have := hp2.length_eq; omega) hi HP.out).mono ?_
    rintro e w3 ⟨rfl, L3, hq3, hp3, hh3, _, ht3⟩
    go_wp2_with fail
    refine bodyPost_end (results_none rfl _ _ _) rfl ?_
    have hp := hp3.trans hp2
    exact ⟨rfl, L3, hq3, hp, hp.length_eq ▸ hh3, HD.out.trans (HD.out.trans ht1 ht2) ht3⟩

set_option maxHeartbeats 1000000 in
theorem heap_pop_any {a : Addr} {Q : World → List Due → Prop} {T : World → World → Prop} {B : World → Due → Value → Prop} (D : Does a Q T B) (w : World) (L : List Due) (m : Nat) (hq : Q w L) (hm : L.length = m + 1) (hh : Heap L L.length) :
    Calls Try.prog 24 #[.iface 54 (.pointer (some a))] w fun e w' => ∃ v, e = .returned v ∧ ∃ L', B w' (at_ L 0) v ∧ Q w' L' ∧ Taken L L' (at_ L 0) ∧ T w w' := by
  have HD := Lib.hid D; clear D
  have HH := Lib.hid hh; clear hh
  have HM := Lib.hid hm; clear hm
  have hs := HD.out.short w L hq
  have mN := fun n w => method_len n a w
  have mS := fun n w => method_swap n a w
  have mP := fun n w => method_pop n a w
  go_enter Try.func24, Try.ntmps24
  go_wp2_with fail
  refine (HD.out.len w L hq).mono ?_
  rintro e w1 ⟨rfl, hq1, ht1⟩
  rw [HM.out]
  have hs' : m + 1 < 4611686018427387904 := HM.out ▸ hs
  have hz : Hole (sw L 0 m) m 0 := by
    by_cases h0 : m = 0
    · subst h0; exact ⟨fun k _ h => absurd h (by omega), fun k _ h => absurd h (by omega)⟩
    · exact hole_at HH.out (by have := HM.out; omega) (fun k hk hk0 => by rw [at_sw (by have := HM.out; omega) (by have := HM.out; omega), if_neg (by omega), if_neg hk0]) (by omega)
  have HZ := Lib.hid hz; clear hz
  go_wp2_with fail
  refine (HD.out.swapI w1 L 0 m rfl rfl hq1 (by have := HM.out; omega) (by have := HM.out; omega)).mono ?_
  rintro e w2 ⟨rfl, hq2, ht2⟩
  go_wp2_with fail
  refine (down_any HD.out w2 (sw L 0 m) m 0 hq2 (by rw [length_sw, HM.out]; omega) (by omega) HZ.out).mono ?_
  rintro e w3 ⟨b, L2, rfl, hq3, hp2, hor, hk2, ht3⟩
  have hh : Heap L2 m := by
    rcases hor with ⟨_, h⟩ | ⟨_, h⟩
    · exact h
    · exact up_done h (.inl rfl)
  clear hor
  obtain ⟨he, htk⟩ := taken_of HM.out (Nat.zero_le _) hp2 hh hk2
  have hq4 : Q w3 (L2.take m ++ [at_ L 0]) := he ▸ hq3
  have HT := Lib.hid htk; clear he htk hp2 hh hk2 hq3
  go_wp2_with fail
  refine (HD.out.pop w3 _ _ hq4).mono ?_
  rintro e w4 ⟨v, rfl, hbv, hq5, ht4⟩
  go_wp2_with fail
  go_ret
  exact ⟨v, rfl, _, hbv, hq5, HT.out, HD.out.trans (HD.out.trans (HD.out.trans ht1 ht2) ht3) ht4⟩

set_option maxHeartbeats 2000000 in
theorem heap_remove_any {a : Addr} {Q : World → List Due → Prop} {T : World → World → Prop} {B : World → Due → Value → Prop} (D : Does a Q T B) (w : World) (L : List Due) (m i : Nat) (hq : Q w L) (hm : L.length = m + 1) (hi : i ≤ m) (hh : Heap L L.length) :
    Calls Try.prog 23 #[.iface 54 (.pointer (some a)), .int .i64 i] w fun e w' => ∃ v, e = .returned v ∧ ∃ L', B w' (at_ L i) v ∧ Q w' L' ∧ Taken L L' (at_ L i) ∧ T w w' := by
  have HD := Lib.hid D; clear D
  have HH := Lib.hid hh; clear hh
  have HM := Lib.hid hm; clear hm
  have hs := HD.out.short w L hq
  have hs' : m + 1 < 4611686018427387904 := HM.out ▸ hs
  have mN := fun n w => method_len n a w
  have mS := fun n w => method_swap n a w
  have mP := fun n w => method_pop n a w
  by_cases hmi : i = m
  · have HI := Lib.hid hmi
    have hii : (m : Int) = (i : Int) := by omega
    have hq0 : Q w (L.take m ++ [at_ L m]) := take_last HM.out ▸ hq
    have htk : Taken L (L.take m) (at_ L m) := ⟨by
      have e := take_last HM.out
      have : (L.take m ++ [at_ L m]).Perm L := by rw [← e]
      exact this.symm.trans List.perm_append_comm, heap_take (heap_some HH.out (by have := HM.out; omega)) (by have := HM.out; omega)⟩
    have HT := Lib.hid htk; clear htk hmi
    rw [HI.out]
    clear hii
    go_enter Try.func23, Try.ntmps23
    go_wp2_with fail
    refine (HD.out.len w L hq).mono ?_
    rintro e w1 ⟨rfl, hq1, ht1⟩
    rw [HM.out]
    go_wp2_with fail
    refine (HD.out.pop w1 _ _ (take_last HM.out ▸ hq1)).mono ?_
    rintro e w4 ⟨v, rfl, hbv, hq5, ht4⟩
    go_wp2_with fail
    go_ret
    exact ⟨v, rfl, _, hbv, hq5, HT.out, HD.out.trans ht1 ht4⟩
  have hil : i < m := by omega
  have hni : ¬ (m : Int) = (i : Int) := by omega
  have hz : Hole (sw L i m) m i :=
    hole_at HH.out (by have := HM.out; omega) (fun k hk hk0 => by rw [at_sw (by have := HM.out; omega) (by have := HM.out; omega), if_neg (by omega), if_neg hk0]) hil
  have HZ := Lib.hid hz; clear hz
  clear hmi
  go_enter Try.func23, Try.ntmps23
  go_wp2_with fail
  refine (HD.out.len w L hq).mono ?_
  rintro e w1 ⟨rfl, hq1, ht1⟩
  rw [HM.out]
  go_wp2_with fail
  refine (HD.out.swapI w1 L i m rfl rfl hq1 (by have := HM.out; omega) (by have := HM.out; omega)).mono ?_
  rintro e w2 ⟨rfl, hq2, ht2⟩
  go_wp2_with fail
  refine (down_any HD.out w2 (sw L i m) m i hq2 (by rw [length_sw, HM.out]; omega) (by rw [length_sw, HM.out]; omega) HZ.out).mono ?_
  rintro e w3 ⟨b, L2, rfl, hq3, hp2, ⟨rfl, hh⟩ | ⟨rfl, hup⟩, hk2, ht3⟩
  · obtain ⟨he, htk⟩ := taken_of HM.out hi hp2 hh hk2
    have hq4 : Q w3 (L2.take m ++ [at_ L i]) := he ▸ hq3
    have HT := Lib.hid htk; clear he htk hp2 hh hk2 hq3
    go_wp2_with fail
    refine (HD.out.pop w3 _ _ hq4).mono ?_
    rintro e w4 ⟨v, rfl, hbv, hq5, ht4⟩
    go_wp2_with fail
    go_ret
    exact ⟨v, rfl, _, hbv, hq5, HT.out, HD.out.trans (HD.out.trans (HD.out.trans ht1 ht2) ht3) ht4⟩
  · have HP := Lib.hid hup; have HP2 := Lib.hid hp2; have HK := Lib.hid hk2
    clear hup hp2 hk2
    go_wp2_with fail
    refine (up_any HD.out w3 L2 m i hq3 (by have := HP2.out.length_eq; rw [length_sw, HM.out] at this; omega) hil HP.out).mono ?_
    rintro e w5 ⟨rfl, L3, hq6, hp3, hh3, hk3, ht5⟩
    obtain ⟨he, htk⟩ := taken_of HM.out hi (hp3.trans HP2.out) hh3 (fun k hk => (hk3 k hk).trans (HK.out k hk))
    have hq4 : Q w5 (L3.take m ++ [at_ L i]) := he ▸ hq6
    have HT := Lib.hid htk; clear he htk hp3 hh3 hk3 hq6
    go_wp2_with fail
    refine (HD.out.pop w5 _ _ hq4).mono ?_
    rintro e w4 ⟨v, rfl, hbv, hq5, ht4⟩
    go_wp2_with fail
    go_ret
    exact ⟨v, rfl, _, hbv, hq5, HT.out, HD.out.trans (HD.out.trans (HD.out.trans (HD.out.trans ht1 ht2) ht3) ht5) ht4⟩
end Go.Proofs.Ytpepmjkkckgkkaa
