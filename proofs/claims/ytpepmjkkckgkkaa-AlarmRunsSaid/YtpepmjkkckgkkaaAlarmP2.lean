/-
  The program's clock: Due by contract; all its calls together; no clock.
-/
import Derived.Test.YtpepmjkkckgkkaaAlarmP
import Derived.Test.YtpepmjkkckgkkaaSetsC
namespace Go.Proofs.Ytpepmjkkckgkkaa
open Go.RowKit

theorem bl_inv {w : World} {x : Due} {v : Value} (h : BL w x v) : v = .iface 56 (.agg #[.int .i64 x.2, .int .i64 x.1]) := h.1

theorem mark_id (u v : Value) (w : World) : (Instr.field 56 (.agg #[u, v]) 0).run Try.prog w = .ok u w := by kernel_rfl

/-- How far the telling has come. -/
structure Telling (w : World) (F : Nat → Prop) (c : Nat) (S : List Due) (now : Int) (k : Nat) (o : Value) (wr : World) (Fk : Nat → Prop) : Prop where
  upto : ∀ i (h : i < S.length), i < k → S[i].1 ≤ now
  own : wr.ownsRow w.heap.size 3 1 o k (ci (ids (S.take k)))
  holds : KP wr Fk ⟨c, 0, none⟩ (S.drop k)
  moved : Moved F Fk w wr
  apart : ∀ g, o.ownBlock = some g → ¬ Fk g

theorem telling_next {w wr w1 w3 : World} {F Fk : Nat → Prop} {c : Nat} {S L' : List Due} {now : Int} {k : Nat} {o o3 : Value} {x : Due} {b : Obj} (h : Telling w F c S now k o wr Fk) (hk : k < S.length) (hx : S[k] = x) (hn : x.1 ≤ now)
    (hq : QL wr Fk c w1 L') (hp : L'.Perm (S.drop (k + 1))) (hh : Heap L' L'.length)
    (hown : w3.ownsRow w.heap.size 3 1 o3 (k + 1) (ci (ids (S.take k)) ++ [.int .i64 x.2])) (hg : (w1.alloc b).grownBy w3 o.ownBlock) (hat : o3.ownBlock = o.ownBlock ∨ o3.ownBlock = some (w1.heap.size + 1)) :
    ∃ F', Telling w F c S now (k + 1) o3 w3 F' := by
  obtain ⟨F1, h1, h2⟩ := hq
  have hnew : ∀ g, o.ownBlock = some g → ¬ F1 g := fun g hg' hf => by
    rcases h2.2 g hf with h3 | h3
    · exact h.apart g hg' h3
    · have := (h.own.lt g hg').2
      omega
  have hlt : ∀ j, F1 j → j < w1.heap.size := by
    obtain ⟨v, mv, hr⟩ := h1
    exact hr.lt
  have hk3 : Keeps (fun j => o.ownBlock ≠ some j) w1 w3 := (Keeps.refl.alloc b).trans (Keeps.of_grown (S := fun j => o.ownBlock ≠ some j) hg fun j hj hn => hn hj)
  obtain ⟨c', L, he, _, _, _, hr, ho⟩ := h.holds
  have hm1 := h.moved.trans h2
  refine ⟨F1, ⟨fun i hi hik => ?_, ?_, ⟨c, L', rfl, h1.keep (hk3.mono fun j hj e => hnew j e hj), hp, hh, ?_, ?_⟩, ⟨?_, fun j hj => hm1.2 j hj⟩, fun g hg' hf => ?_⟩⟩
  · by_cases e : i = k
    · subst e; rw [hx]; exact hn
    · exact h.upto i hi (by omega)
  · have tS : ids (S.take (k + 1)) = ids (S.take k) ++ [x.2] := by unfold ids; rw [List.take_succ_eq_append_getElem hk, List.map_append, hx]; rfl
    rw [tS, ci_append]
    exact hown
  · have e : S.drop (k + 1) = (S.drop k).tail := by rw [List.tail_drop]
    rw [e]
    exact List.Pairwise.tail hr
  · have e : S.drop (k + 1) = (S.drop k).tail := by rw [List.tail_drop]
    rw [e]
    exact List.Pairwise.tail ho
  · have hsz := hm1.1.size
    refine ⟨hk3.os.trans hm1.1.os, hk3.tape.trans hm1.1.tape, hk3.output.trans hm1.1.output, Nat.le_trans hsz hk3.size, fun j hj hf => (hk3.block j (by omega) fun e => ?_).trans (hm1.1.block j hj hf)⟩
    have := (h.own.lt j e).1
    omega
  · rcases hat with e | e
    · exact hnew g (e ▸ hg') hf
    · rw [hg'] at e
      have := hlt g hf
      injection e with e
      omega

set_option maxHeartbeats 4000000 in
theorem clock_due (w : World) (F : Nat → Prop) (p : Addr) (S : List Due) (now : Int) (h : KP w F p S) (hS : S.length ≤ 1000) :
    Calls Try.prog 12 #[.pointer (some p), .int .i64 now] w fun e w' =>
      ∃ o F', e = .returned o ∧ w'.ownsRow w.heap.size 3 1 o (dueN now S) (ci (ids (S.take (dueN now S)))) ∧ KP w' F' p (S.drop (dueN now S)) ∧ Moved F F' w w' ∧ ∀ g, o.ownBlock = some g → ¬ F' g := by
  obtain ⟨i0, hi, hz0, hz1, hz2⟩ := info_parts info_num
  obtain ⟨c, L0, rfl, h0⟩ : ∃ c L, p = ⟨c, 0, none⟩ ∧ True := by obtain ⟨c, L, he, _⟩ := h; exact ⟨c, L, he, trivial⟩
  have hta := mark_told
  have hmi := fun (x y : Int) w => mark_id (.int .i64 x) (.int .i64 y) w
  have HR := Lib.hid h
  clear h h0
  go_enter Try.func12, Try.ntmps12
  go_wp2_with fail
  go_loopw [5] (fun o wr => ∃ (k : Nat) (o' : Value), o' = o ∧ k ≤ S.length ∧ Hid (∃ Fk, Telling w F c S now k o' wr Fk)) (fun o _ => S.length - lenV o)
  case atStart => exact ⟨0, _, rfl, Nat.zero_le _, Lib.hid ⟨F, fun i _ h => absurd h (Nat.not_lt_zero i), World.ownsRow_nil _ _ _ _, by simpa using HR.out, Moved.refl, fun g hg => by cases hg⟩⟩
  case round =>
    obtain ⟨k, o', rfl, hk, hrk⟩ := hrel
    obtain ⟨Fk, ht⟩ := hrk.out
    clear hrk
    obtain ⟨c', L, he, hh, hp, hheap, hr, ho⟩ := ht.holds
    cases he
    obtain ⟨a, cap, rfl⟩ := own_len ht.own
    have HT := Lib.hid ht
    have HLen := Lib.hid (clock_len wr Fk c L hh)
    have hlen := hp.length_eq
    rw [List.length_drop] at hlen
    by_cases hL : L.length = 0
    · have hd : dueN now S = k := dueN_of ht.upto hk (fun h => absurd h (by omega))
      rw [hL] at HLen
      have HD := Lib.hid hd
      clear hh hp hheap hr ho ht hd hlen hL
      go_wp2_with fail
      refine HLen.out.mono ?_
      rintro e w1 ⟨rfl, rfl⟩
      go_wp2_with fail
      go_ret
      exact ⟨_, Fk, rfl, by rw [HD.out]; exact HT.out.own, by rw [HD.out]; exact HT.out.holds, HT.out.moved, HT.out.apart⟩
    obtain ⟨m, hm⟩ : ∃ m, L.length = m + 1 := ⟨L.length - 1, by omega⟩
    have lk : k < S.length := by omega
    have hcons : S.drop k = S[k] :: S.drop (k + 1) := List.drop_eq_getElem_cons lk
    have hx := head_heap hr hp hheap (by rw [hcons]; exact List.cons_ne_nil _ _)
    rw [hcons] at hx
    injection hx with hx _
    obtain ⟨v, mv, hrep⟩ := hh
    obtain ⟨c0, _⟩ := hrep.cells
    obtain ⟨g, cap1, rfl, hfg, _, _, hm1, hc⟩ := hrep.pos (by omega)
    have i1 := hc.time 0 (by omega)
    rw [← hx] at i1
    simp only [Nat.zero_mul, Nat.zero_add] at i1
    have hgl := hrep.lt g hfg
    have hcl := hrep.lt c hrep.fc
    have HX := Lib.hid hx
    rw [hm] at HLen c0
    have m0 : (0 : Int) < (m : Int) + 1 := by omega
    have hmS : k + (m + 1) = S.length := by omega
    by_cases hle : S[k].1 ≤ now
    · have HPop := Lib.hid (heap_pop_any (does_line wr Fk c) wr L m ⟨Fk, ⟨_, _, hrep⟩, Moved.refl⟩ hm hheap)
      have htk : ∀ L', Taken L L' (at_ L 0) → L'.Perm (S.drop (k + 1)) := fun L' h1 => by
        have h2 := h1.perm.symm.trans hp
        rw [hcons, ← HX.out] at h2
        exact h2.cons_inv
      have HTK := Lib.hid htk
      have HLE := Lib.hid hle
      generalize hxe : S[k] = x at *
      have HXE := Lib.hid hxe
      clear hp hheap hr ho ht hcons hc hrep htk hxe hx hlen hL
      obtain ⟨xt, xi⟩ := x
      simp only at i1 hle
      go_wp2_with fail
      refine HLen.out.mono ?_
      rintro e w1 ⟨rfl, rfl⟩
      go_wp2_with fail
      refine HPop.out.mono ?_
      rintro e w2 ⟨v, rfl, L', hb, hq, htaken, _⟩
      obtain rfl := bl_inv hb
      rw [← HX.out]
      have HQ := Lib.hid hq
      have HTA := Lib.hid htaken
      obtain ⟨F1, _, hmv2⟩ := hq
      have hown2 := own_keeps HT.out.own hmv2.1 HT.out.apart
      have hwsz : w.heap.size ≤ w2.heap.size := Nat.le_trans HT.out.moved.1.size hmv2.1.size
      clear hb hmv2 htaken
      go_wp2_with (at_builtin; refine wpList_append_own_at _ rfl _ _ 35 rfl w.heap.size 3 i0 (.int .i64 0) 1 8 Try.underlying35 hi hz0 hz1 hz2 rfl (by decide) _ _ _ rfl (hown2.alloc _) ⟨_, 0, none⟩ 1 1 [.int .i64 xi] rfl rfl ?c1 ?c2 ?c3 ?c4 ?c5 ?_)
      case c1 => exact cell_one _ _ _
      case c2 => intro u hu; simp at hu; subst hu; rfl
      case c3 => unfold maxLen; omega
      case c4 => omega
      case c5 => simp; omega
      intro o3 w3 hown3 hgrow _ hat3
      have hnext := telling_next HT.out lk HXE.out HLE.out HQ.out (HTK.out L' HTA.out) HTA.out.heap hown3 hgrow hat3
      obtain ⟨a3, cap3, rfl⟩ := own_len hown3
      have HN := Lib.hid hnext
      clear hnext hown3 hgrow hat3 hown2
      go_wp2_with fail
      go_roundw
      case rel => exact ⟨k + 1, _, rfl, by omega, HN⟩
      case measure => simp only [lenV]; omega
    · have hd : dueN now S = k := dueN_of ht.upto (by omega) (fun _ => hle)
      have HD := Lib.hid hd
      generalize S[k] = x at *
      clear hp hheap hr ho ht hcons hc hrep hd hlen hL
      obtain ⟨xt, xi⟩ := x
      simp only at i1 hle
      go_wp2_with fail
      refine HLen.out.mono ?_
      rintro e w1 ⟨rfl, rfl⟩
      go_wp2_with fail
      go_ret
      exact ⟨_, Fk, rfl, by rw [HD.out]; exact HT.out.own, by rw [HD.out]; exact HT.out.holds, HT.out.moved, HT.out.apart⟩

theorem ticks : Ticks KP where
  keep := by
    rintro w w' F p S ⟨c, L, h1, h2, h3⟩ hk
    exact ⟨c, L, h1, h2.keep hk, h3⟩
  lt := by
    rintro w F p S ⟨c, L, h1, ⟨v, mv, h2⟩, h3⟩
    exact h2.lt
  rise := by
    rintro w F p S ⟨c, L, h1, h2, h3, h4, h5, h6⟩
    exact ⟨h5, h6⟩
  new := clock_new
  set := fun w F p S id t hi h hS => clock_set w F p S id t hi h hS
  clear := fun w F p S id hi h _ => clock_clear w F p S id hi h
  next := fun w F p S h _ => clock_next w F p S h
  due := fun w F p S now h hS => clock_due w F p S now h hS
  len := by
    rintro w F p S h _
    have h' := h
    obtain ⟨c, L, rfl, h2, h3, _⟩ := h'
    refine (clock_len w F c L h2).mono fun e w' ⟨he, hw⟩ => ?_
    subst hw
    rw [← h3.length_eq]
    exact ⟨he, F, h, Moved.refl⟩

theorem nil_len (w : World) : Calls Try.prog 17 #[.pointer none] w fun e w' => e = .returned (.int .i64 0) ∧ Below w.heap.size w w' := by
  go_enter Try.func17, Try.ntmps17
  go_wp2_with fail
  go_ret
  exact ⟨rfl, Below.refl _ _⟩
theorem nilTicks : NilTicks where
  set := by
    intro w id t
    go_enter Try.func8, Try.ntmps8
    go_wp2_with fail
    go_ret
    exact ⟨rfl, Below.refl _ _⟩
  clear := by
    intro w id
    go_enter Try.func10, Try.ntmps10
    go_wp2_with fail
    go_ret
    exact ⟨rfl, Below.refl _ _⟩
  next := by
    intro w
    go_enter Try.func15, Try.ntmps15
    go_wp2_with fail
    go_ret3
    exact ⟨rfl, Below.refl _ _⟩
  due := by
    intro w now
    have HN := Lib.hid nil_len
    go_enter Try.func12, Try.ntmps12
    go_wp2_with fail
    go_loopw [5] (fun o wr => o = .slice none 0 0 ∧ Below w.heap.size w wr) (fun _ _ => 0)
    case atStart => exact ⟨rfl, Below.refl _ _⟩
    case round =>
      obtain ⟨rfl, hb⟩ := hrel
      go_wp2_with fail
      refine (HN.out wr).mono ?_
      rintro e w1 ⟨rfl, hb1⟩
      go_wp2_with fail
      go_ret
      exact ⟨⟨_, _, rfl⟩, hb.trans (hb1.mono hb.size)⟩
  len := nil_len
end Go.Proofs.Ytpepmjkkckgkkaa
