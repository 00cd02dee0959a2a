/-
  The document's clock, by contract: Due.
-/
import Derived.Test.YtpepmjkkckgkkaaAlarmB
import Derived.Test.YtpepmjkkckgkkaaSetsK
namespace Go.Proofs.Ytpepmjkkckgkkaa
open Go.RowKit

def ids (S : List Due) : List Int := S.map (·.2)
theorem rdT_drop {w : World} {G : Nat → Prop} {b o : Nat} {S : List Due} (h : RdT w G (some ⟨b, o, none⟩) 2 (S.map itv)) (hS : 0 < S.length) : RdT w G (some ⟨b, o + 2, none⟩) 2 (S.tail.map itv) := by
  rcases h with h | ⟨b', o', ha, hg, hc⟩
  · have := congrArg List.length h
    rw [List.length_map] at this
    rw [this] at hS
    exact absurd hS (Nat.lt_irrefl 0)
  · simp only [Option.some.injEq, Addr.mk.injEq, and_true] at ha
    obtain ⟨rfl, rfl⟩ := ha
    refine .inr ⟨b, o + 2, rfl, hg, fun i x hx j v hv => ?_⟩
    have hx' : (S.map itv)[i + 1]? = some x := by
      cases S with
      | nil => simp at hS
      | cons s t => simpa using hx
    have := hc (i + 1) x hx' j v hv
    rw [show o + 2 + i * 2 + j = o + (i + 1) * 2 + j by omega]
    exact this

def lenC : Option Value → Nat
  | some (.slice _ n _) => n
  | _ => 0
theorem own_apart {w : World} {base : Nat} {e : TypeId} {size : Nat} {v : Value} {n : Nat} {xs : List Value} (h : w.ownsRow base e size v n xs) {p : Addr} (hp : p.block < base) (u : Value) : (w.setCell p u).ownsRow base e size v n xs := by
  rcases h with ⟨hl, h | ⟨g, cap, cur, h1, h2, h3, h4⟩⟩
  · exact ⟨hl, .inl h⟩
  · exact ⟨hl, .inr ⟨g, cap, cur, h1, h2, (Below.heap_setCell _ _ _ _ (by omega)).trans h3, h4⟩⟩
set_option maxHeartbeats 4000000 in
theorem ref_due_any (b : Nat) (G : Nat → Prop) (S : List Due) (now : Int) (w : World) (h : Rf w b G S) (hG : ∀ k, G k → k < w.heap.size) (hn : S.length ≤ 100000) :
    Calls Try.prog 14 #[.pointer (some ⟨b, 0, none⟩), .int .i64 now] w fun e w' =>
      ∃ o, e = .returned o ∧ w'.ownsRow w.heap.size 3 1 o (dueN now S) (ci (ids (S.take (dueN now S)))) ∧ Rf w' b G (S.drop (dueN now S)) ∧ Keeps (· ≠ b) w w' := by
  obtain ⟨i0, hi, hz0, hz1, hz2⟩ := info_parts info_num
  have hbl : b < w.heap.size := by obtain ⟨_, _, hc, _⟩ := h; exact World.block_lt_of_cell? w _ hc
  have HR := Lib.hid h; clear h
  go_enter Try.func14, Try.ntmps14
  go_wp2_with fail
  go_loopw [5] (fun o wr => ∃ (k : Nat) (o' : Value), o' = o ∧ k ≤ S.length ∧ Hid (∀ i (h : i < S.length), i < k → S[i].1 ≤ now) ∧ wr.ownsRow w.heap.size 3 1 o' k (ci (ids (S.take k))) ∧ Hid (Rf wr b G (S.drop k) ∧ Keeps (· ≠ b) w wr)) (fun _ wr => lenC (wr.cell? ⟨b, 0, none⟩))
  case atStart => exact ⟨0, _, rfl, Nat.zero_le _, Lib.hid (fun i _ h => absurd h (Nat.not_lt_zero i)), World.ownsRow_nil _ _ _ _, Lib.hid ⟨by simpa using HR.out, Keeps.refl⟩⟩
  case round =>
    obtain ⟨k, o', rfl, hk, hle, hown, hrk⟩ := hrel
    obtain ⟨⟨a, c, hcell, hfz, hrd, hGb, hlc⟩, hkw⟩ := hrk.out
    clear hrk
    have hsz := hkw.size
    obtain ⟨m, hm⟩ : ∃ m, (S.drop k).length = m := ⟨_, rfl⟩
    rw [hm] at hcell hlc
    have HM := Lib.hid hm
    have HK := Lib.hid (show S.length = k + m by rw [← hm, List.length_drop]; omega)
    clear hm hk
    by_cases h0 : m = 0
    · have hz : S.drop k = [] := List.eq_nil_of_length_eq_zero (by rw [HM.out]; exact h0)
      have hd : dueN now S = k := dueN_of hle.out (by have := HK.out; omega) (fun h => absurd h (by have := HK.out; omega))
      have HD := Lib.hid hd
      subst h0
      clear hd hz
      go_wp2_with fail
      go_ret
      refine ⟨_, rfl, by rw [HD.out]; exact hown, ?_, hkw⟩
      rw [HD.out]
      exact ⟨a, c, by rw [HM.out]; exact hcell, hfz, hrd, hGb, by rw [HM.out]; exact hlc⟩
    · obtain ⟨b1, o1, rfl, hg1, hb1, hrng⟩ := rdT_at hrd (by rw [HM.out]; omega)
      have lk : k < S.length := by have := HK.out; omega
      have e0 : (S.drop k)[0]'(by rw [HM.out]; omega) = S[k] := by simp
      have hrk := hrng 0 (by rw [HM.out]; omega)
      rw [e0] at hrk
      have c0 : wr.cell? ⟨b1, o1, none⟩ = some (.int .i64 S[k].2) := by simpa using hrk 0 _ rfl
      have c1 : wr.cell? ⟨b1, o1 + 1, none⟩ = some (.int .i64 S[k].1) := by simpa using hrk 1 _ rfl
      clear hrng hrk e0
      have tS : ids (S.take (k + 1)) = ids (S.take k) ++ [S[k].2] := by unfold ids; rw [List.take_succ_eq_append_getElem lk, List.map_append]; rfl
      have hstep : S[k].1 ≤ now → ∀ i (h : i < S.length), i < k + 1 → S[i].1 ≤ now := by
        intro hx i h hi
        by_cases he : i = k
        · subst he; exact hx
        · exact hle.out i h (by omega)
      have hstop : ¬ S[k].1 ≤ now → dueN now S = k := fun hx => dueN_of hle.out (by omega) (fun _ => hx)
      generalize S[k] = x at *
      obtain ⟨xt, xi⟩ := x
      simp only at c0 c1 tS hstep hstop
      have m0 : (0 : Int) < (m : Int) := by omega
      by_cases hx : xt ≤ now
      · have HS := Lib.hid (hstep hx)
        have TS := Lib.hid tS
        clear hstep hstop tS
        by_cases h1 : c = 1
        · subst h1
          obtain rfl : m = 1 := by omega
          go_wp2_with (at_builtin; refine wpList_append_own _ rfl _ _ 35 rfl w.heap.size 3 i0 (.int .i64 0) 1 8 Try.underlying35 hi hz0 hz1 hz2 rfl (by decide) _ _ _ rfl (hown.alloc _) ⟨_, 0, none⟩ 1 1 [.int .i64 xi] rfl rfl ?c1 ?c2 ?c3 ?c4 ?c5 ?_)
          case c1 => exact cell_one _ _ _
          case c2 => intro u hu; simp at hu; subst hu; rfl
          case c3 => have := HK.out; unfold maxLen; omega
          case c4 => have := HK.out; omega
          case c5 => simp; omega
          intro o3 w3 hown3 hgrow _
          have hkg : Keeps (· < w.heap.size) wr w3 := (Keeps.refl.alloc (.cells #[.int .i64 xi] 3)).trans (Keeps.of_grown hgrow (fun j hj hlt => by have := (hown.lt j hj).1; omega))
          have hc3 := hkg.cell hcell hbl
          have hf3 : w3.frozen? ⟨b, 0, none⟩ = false := by rw [World.frozen?_of_block (hkg.block b (Nat.lt_of_lt_of_le hbl hsz) hbl)]; exact hfz
          have hk3 : Keeps (· ≠ b) w w3 := ⟨hkg.os.trans hkw.os, hkg.tape.trans hkw.tape, hkg.output.trans hkw.output, Nat.le_trans hkw.size hkg.size, fun i hi hne => (hkg.block i (Nat.lt_of_lt_of_le hi hsz) hi).trans (hkw.block i hi hne)⟩
          have hdl : (S.drop (k + 1)).length = 0 := by rw [List.length_drop, HK.out]; omega
          have HDL := Lib.hid hdl
          have htl : S.drop (k + 1) = (S.drop k).tail := by rw [List.tail_drop]
          have hrd4 : RdT w3 G (some ⟨b1, o1, none⟩) 2 ((S.drop (k + 1)).map itv) := by
            exact .inl (by have : S.drop (k + 1) = [] := List.eq_nil_of_length_eq_zero (by omega); rw [this]; rfl)
          have hown4 : w3.ownsRow w.heap.size 3 1 o3 (k + 1) (ci (ids (S.take (k + 1)))) := by rw [TS.out, ci_append]; exact hown3
          clear hown3 htl hdl
          go_wp2_with fail
          go_roundw
          case rel =>
            refine ⟨k + 1, _, rfl, by have := HK.out; omega, HS, own_apart hown4 hbl _, Lib.hid ⟨?_, hk3.setCell (by simp) _⟩⟩
            have := rf_stored (c := 0) hc3 hf3 hrd4 hGb (by have := HDL.out; omega)
            rw [HDL.out] at this
            exact this
          case measure =>
            rw [World.cell?_setCell_same _ _ _ hc3, hcell]
            simp only [lenC]
            omega
        · skip
          go_wp2_with (at_builtin; refine wpList_append_own _ rfl _ _ 35 rfl w.heap.size 3 i0 (.int .i64 0) 1 8 Try.underlying35 hi hz0 hz1 hz2 rfl (by decide) _ _ _ rfl (hown.alloc _) ⟨_, 0, none⟩ 1 1 [.int .i64 xi] rfl rfl ?c1 ?c2 ?c3 ?c4 ?c5 ?_)
          case c1 => exact cell_one _ _ _
          case c2 => intro u hu; simp at hu; subst hu; rfl
          case c3 => have := HK.out; unfold maxLen; omega
          case c4 => have := HK.out; omega
          case c5 => simp; omega
          intro o3 w3 hown3 hgrow _
          have hkg : Keeps (· < w.heap.size) wr w3 := (Keeps.refl.alloc (.cells #[.int .i64 xi] 3)).trans (Keeps.of_grown hgrow (fun j hj hlt => by have := (hown.lt j hj).1; omega))
          have hc3 := hkg.cell hcell hbl
          have hf3 : w3.frozen? ⟨b, 0, none⟩ = false := by rw [World.frozen?_of_block (hkg.block b (Nat.lt_of_lt_of_le hbl hsz) hbl)]; exact hfz
          have hk3 : Keeps (· ≠ b) w w3 := ⟨hkg.os.trans hkw.os, hkg.tape.trans hkw.tape, hkg.output.trans hkw.output, Nat.le_trans hkw.size hkg.size, fun i hi hne => (hkg.block i (Nat.lt_of_lt_of_le hi hsz) hi).trans (hkw.block i hi hne)⟩
          have hdl : (S.drop (k + 1)).length = m - 1 := by rw [List.length_drop, HK.out]; omega
          have HDL := Lib.hid hdl
          have htl : S.drop (k + 1) = (S.drop k).tail := by rw [List.tail_drop]
          have hrd4 : RdT w3 G (some ⟨b1, o1 + 2, none⟩) 2 ((S.drop (k + 1)).map itv) := by
            rw [htl]; exact (rdT_drop hrd (by rw [HM.out]; omega)).keep (fun _ h => h) (hkg.mono (fun k hk => hG k hk))
          have hown4 : w3.ownsRow w.heap.size 3 1 o3 (k + 1) (ci (ids (S.take (k + 1)))) := by rw [TS.out, ci_append]; exact hown3
          clear hown3 htl hdl
          go_wp2_with fail
          go_roundw
          case rel =>
            refine ⟨k + 1, _, rfl, by have := HK.out; omega, HS, own_apart hown4 hbl _, Lib.hid ⟨?_, hk3.setCell (by simp) _⟩⟩
            have := rf_stored (c := c - 1) hc3 hf3 hrd4 hGb (by have := HDL.out; omega)
            rw [HDL.out] at this
            exact this
          case measure =>
            rw [World.cell?_setCell_same _ _ _ hc3, hcell]
            simp only [lenC]
            omega
      · have HD := Lib.hid (hstop hx)
        clear hstep hstop tS
        go_wp2_with fail
        go_ret
        refine ⟨_, rfl, by rw [HD.out]; exact hown, ?_, hkw⟩
        rw [HD.out]
        exact ⟨_, c, by rw [HM.out]; exact hcell, hfz, hrd, hGb, by rw [HM.out]; exact hlc⟩
end Go.Proofs.Ytpepmjkkckgkkaa
