/-
  The program's clock: its calls by contract.
-/
import Derived.Test.YtpepmjkkckgkkaaAlarmQ
import Derived.Test.YtpepmjkkckgkkaaLaw06b
namespace Go.Proofs.Ytpepmjkkckgkkaa
open Go.RowKit

theorem clock_len (w : World) (F : Nat → Prop) (c : Nat) (L : List Due) (h : Held w F c L) :
    Calls Try.prog 17 #[.pointer (some ⟨c, 0, none⟩)] w fun e w' => e = .returned (.int .i64 (L.length : Int)) ∧ w' = w := by
  have HC := Lib.hid (line_len w F c L h)
  clear h
  generalize (L.length : Int) = n at *
  go_enter Try.func17, Try.ntmps17
  go_wp2_with fail
  refine HC.out.mono ?_
  rintro e w1 ⟨rfl, rfl⟩
  go_wp2_with fail
  go_ret
  exact ⟨rfl, rfl⟩

theorem clock_new (w : World) : Calls Try.prog 7 #[] w fun e w' => ∃ p F, e = .returned (.pointer (some p)) ∧ KP w' F p [] ∧ Below w.heap.size w w' ∧ ∀ k, F k → w.heap.size ≤ k := by
  go_enter Try.func7, Try.ntmps7
  go_wp2_with fail
  go_ret
  refine ⟨_, (· = w.heap.size), rfl, ⟨_, [], rfl, ⟨.slice none 0 0, .map none, heap_alloc_new w _, World.ownsRow_nil _ _ _ _, rfl, fun g hg => (by cases hg), fun k hk => ?_, .inl ⟨rfl, rfl⟩, Nat.zero_le _⟩, .refl _, fun k _ hk => absurd hk (by simp), List.Pairwise.nil, List.Pairwise.nil⟩, (Below.refl _ w).alloc (Nat.le_refl _) _, fun k hk => Nat.le_of_eq hk.symm⟩
  rw [hk]; simp

set_option maxHeartbeats 1000000 in
theorem clock_next (w : World) (F : Nat → Prop) (p : Addr) (S : List Due) (h : KP w F p S) :
    Calls Try.prog 15 #[.pointer (some p)] w fun e w' => e = .returned (.tuple (nextV S)) ∧ ∃ F', KP w' F' p S ∧ Moved F F' w w' := by
  have h' := h
  obtain ⟨c, L, rfl, hh, hp, hheap, hr, ho⟩ := h'
  have HL := Lib.hid (clock_len w F c L hh)
  cases S with
  | nil =>
    have hn : L.length = 0 := by rw [hp.length_eq]; rfl
    rw [hn] at HL
    clear hh hp hheap
    go_enter Try.func15, Try.ntmps15
    go_wp2_with fail
    refine HL.out.mono ?_
    rintro e w1 ⟨rfl, rfl⟩
    go_wp2_with fail
    go_ret3
    exact ⟨rfl, F, h, Moved.refl⟩
  | cons x r =>
    have hn : L.length = r.length + 1 := by rw [hp.length_eq]; rfl
    have hx := head_heap hr hp hheap (by simp)
    injection hx with hx _
    obtain ⟨v, mv, hrep⟩ := hh
    obtain ⟨c0, _⟩ := hrep.cells
    obtain ⟨g, cap, rfl, hfg, _, _, hm, hc⟩ := hrep.pos (by omega)
    have i0 := hc.id 0 (by omega)
    have i1 := hc.time 0 (by omega)
    rw [← hx] at i0 i1
    simp only [Nat.zero_mul, Nat.zero_add] at i0 i1
    have hsh := hrep.short
    have hk : ∀ w', Below w.heap.size w w' → ∃ F', KP w' F' ⟨c, 0, none⟩ (x :: r) ∧ Moved F F' w w' := fun w' hb => by
      obtain ⟨c', L', he, hh', hp', hheap', hr', ho'⟩ := h
      cases he
      exact ⟨F, ⟨c, L', rfl, hh'.below hb, hp', hheap', hr', ho'⟩, Moved.of_below hb⟩
    have HK := Lib.hid hk
    have HR := Lib.hid hrep
    have hb : Below w.heap.size w w := Below.refl _ _
    clear hp hheap hr ho hx hc h hk hrep
    obtain ⟨t, y⟩ := x
    simp only at i0 i1
    rw [hn] at HL c0
    generalize r.length = n at *
    clear hn
    simp only [nextV]
    go_enter Try.func15, Try.ntmps15
    go_wp2_with fail
    refine HL.out.mono ?_
    rintro e w1 ⟨rfl, rfl⟩
    go_wp2_with fail
    go_big_region
    all_goals
      go_wp2_with fail
      go_ret3
      exact ⟨rfl, HK.out _ (below_drawn (hb.alloc (Nat.le_refl _) _) _)⟩

set_option maxHeartbeats 1000000 in
theorem clock_set (w : World) (F : Nat → Prop) (p : Addr) (S : List Due) (id t : Int) (hi : I64 id) (h : KP w F p S) (hS : S.length ≤ 1000) :
    Calls Try.prog 8 #[.pointer (some p), .int .i64 id, .int .i64 t] w fun e w' => e = .returned (.int .i64 0) ∧ ∃ F', KP w' F' p (setD id t S) ∧ Moved F F' w w' := by
  obtain ⟨c, L, rfl, hh, hp, hheap, hr, ho⟩ := h
  have hlen := hp.length_eq
  have hoL := once_perm ho hp.symm
  obtain ⟨v, mv, hrep, k, hlook, hat⟩ := held_look hh hi
  obtain ⟨c0, c1⟩ := hrep.cells
  have hfin : ∀ w' L', QL w F c w' L' → L'.Perm ((t, id) :: offD id S) → Heap L' L'.length → ∃ F', KP w' F' ⟨c, 0, none⟩ (setD id t S) ∧ Moved F F' w w' := by
    rintro w' L' ⟨F', h1, h2⟩ h3 h4
    exact ⟨F', ⟨c, L', rfl, h1, h3.trans (insD_perm _ _).symm, h4, setD_rise hr, setD_once ho⟩, h2⟩
  have HF := Lib.hid hfin
  cases hd : hasD id L with
  | false =>
    have hno : ∀ y ∈ L, y.2 ≠ id := fun y hy e => by
      have := hasD_iff.2 ⟨y, hy, e⟩
      rw [hd] at this
      cases this
    have hoff : offD id S = S := offD_no (by rw [← hasD_perm hp]; exact hd)
    have HP := Lib.hid (heap_push_any (does_line w F c) w L (t, id) (.iface 56 (.agg #[.int .i64 id, .int .i64 t])) ⟨F, hh, Moved.refl⟩ ⟨rfl, hi⟩ hno (by omega) hheap)
    rw [hd] at hlook
    have HO := Lib.hid hoff
    have HPE := Lib.hid hp
    clear hh hp hheap hr ho hoL hat hno hoff hfin hrep
    go_enter Try.func8, Try.ntmps8
    go_wp2_with fail
    refine HP.out.mono ?_
    rintro e w1 ⟨rfl, L', hq, hpm, hhp, _⟩
    have hend := HF.out w1 L' hq (by rw [HO.out]; exact hpm.trans (List.Perm.cons _ HPE.out)) hhp
    go_wp2_with fail
    go_ret
    exact ⟨rfl, hend⟩
  | true =>
    obtain ⟨hk, hid⟩ := hat hd
    obtain ⟨g, cap, rfl, hfg, _, _, hm, hc⟩ := hrep.pos (by omega)
    have i1 := hc.time k hk
    have zf := hrep.own.frozenAt (k * 2 + 1)
    obtain ⟨hh1, hm1⟩ := rep_retime hrep hk t hid
    have hperm := set_perm (x := (t, id)) hoL hk hid
    have hhole : Hole (L.set k (t, id)) (L.set k (t, id)).length k := by
      rw [List.length_set]
      exact hole_at hheap (Nat.le_refl _) (fun j hj hjk => by rw [at_set hk, if_neg hjk]) hk
    have HX := Lib.hid (heap_fix_any (does_line w F c) _ (L.set k (t, id)) k ⟨F, hh1, hm1⟩ (by rw [List.length_set]; exact hk) hhole)
    have hpp : (L.set k (t, id)).Perm ((t, id) :: offD id S) := hperm.trans (List.Perm.cons _ (offD_perm hp))
    have HPE := Lib.hid hpp
    rw [hd] at hlook
    have hgl := hrep.lt g hfg
    have hsh := hrep.short
    have hgc := (hrep.fv g rfl).2
    clear hh hp hheap hr ho hoL hat hfin hrep hc hh1 hm1 hperm hhole hpp
    generalize L.length = n at *
    have k0 : (0 : Int) ≤ (k : Int) := by omega
    have k1 : (k : Int) < (n : Int) := by omega
    go_enter Try.func8, Try.ntmps8
    go_wp2_with fail
    refine HX.out.mono ?_
    rintro e w1 ⟨rfl, L', hq, hpm, hhp, _⟩
    have hend := HF.out w1 L' hq (hpm.trans HPE.out) hhp
    go_wp2_with fail
    go_ret
    exact ⟨rfl, hend⟩

set_option maxHeartbeats 1000000 in
theorem clock_clear (w : World) (F : Nat → Prop) (p : Addr) (S : List Due) (id : Int) (hi : I64 id) (h : KP w F p S) :
    Calls Try.prog 10 #[.pointer (some p), .int .i64 id] w fun e w' => e = .returned (.int .i64 (if hasD id S then 0 else 50)) ∧ ∃ F', KP w' F' p (offD id S) ∧ Moved F F' w w' := by
  have h0 := h
  obtain ⟨c, L, rfl, hh, hp, hheap, hr, ho⟩ := h
  have hlen := hp.length_eq
  obtain ⟨v, mv, hrep, k, hlook, hat⟩ := held_look hh hi
  obtain ⟨c0, c1⟩ := hrep.cells
  have hdp := hasD_perm (id := id) hp
  rw [← hdp]
  cases hd : hasD id L with
  | false =>
    rw [hd] at hlook
    have hoff : offD id S = S := offD_no (by rw [← hdp]; exact hd)
    rw [hoff]
    have H0 := Lib.hid h0
    clear hh hp hheap hr ho hat hoff hrep h0
    simp only [Bool.false_eq_true, if_false]
    go_enter Try.func10, Try.ntmps10
    go_wp2_with fail
    go_ret
    exact ⟨rfl, F, H0.out, Moved.refl⟩
  | true =>
    obtain ⟨hk, hid⟩ := hat hd
    obtain ⟨m, hm⟩ : ∃ m, L.length = m + 1 := ⟨L.length - 1, by omega⟩
    have HX := Lib.hid (heap_remove_any (does_line w F c) w L m k ⟨F, hh, Moved.refl⟩ hm (by omega) hheap)
    have hfin : ∀ w' L', QL w F c w' L' → Taken L L' (at_ L k) → ∃ F', KP w' F' ⟨c, 0, none⟩ (offD id S) ∧ Moved F F' w w' := by
      rintro w' L' ⟨F', h1, h2⟩ h3
      have h4 := taken_off hp ho h3.perm
      rw [hid] at h4
      exact ⟨F', ⟨c, L', rfl, h1, h4, h3.heap, offD_rise hr, offD_once ho⟩, h2⟩
    have HF := Lib.hid hfin
    rw [hd] at hlook
    clear hh hp hheap hr ho hat hfin hrep h0 hid
    simp only [if_true]
    go_enter Try.func10, Try.ntmps10
    go_wp2_with fail
    refine HX.out.mono ?_
    rintro e w1 ⟨u, rfl, L', _, hq, htk, _⟩
    have hend := HF.out w1 L' hq htk
    go_wp2_with fail
    go_ret
    exact ⟨rfl, hend⟩
end Go.Proofs.Ytpepmjkkckgkkaa
