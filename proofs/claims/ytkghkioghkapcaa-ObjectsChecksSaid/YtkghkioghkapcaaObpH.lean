/-
  Layer 7, the program, by contract: Equal of kinds.
-/
import Derived.Test.YtkghkioghkapcaaObpF
namespace Go.Proofs.Ytkghkioghkapcaa
open Go.RowKit Go.Sort Go.Shelf

/-- A cell that is read from a row of numbers. -/
theorem OwnX.kin {w : World} {B : Nat} {e : TypeId} {v : Value} {l : List Int} (h : OwnX kinQ w B e 1 v l) {k : Nat} (hk : k < l.length) : ∃ g cap, v = .slice (some ⟨g, 0, none⟩) l.length cap ∧ w.cell? ⟨g, k, none⟩ = some (.int .i64 l[k]) := by
  obtain ⟨g, cap, x, h1, _, _, _, h2, h3⟩ := h.at kin_stays hk
  obtain rfl : x = [.int .i64 l[k]] := h2
  exact ⟨g, cap, h1, by have := h3 0 _ rfl; simpa using this⟩
def eqL (a b : List Int) : Bool := decide (a = b)
theorem prog_eqkinds_any (B B' : Nat) (e e' : TypeId) (v v' : Value) (l l' : List Int) (w : World) (h : OwnX kinQ w B e 1 v l) (h' : OwnX kinQ w B' e' 1 v' l') :
    Calls Try.prog 133 #[v, v'] w fun en w' => en = .returned (.bool (eqL l l')) ∧ Gr w w' := by
  have mixed := mixed_ok
  obtain ⟨a, c, rfl, hc, hm⟩ := h.form
  obtain ⟨a', c', rfl, hc', hm'⟩ := h'.form
  unfold maxLen at hm hm'
  have hat := fun k hk => h.kin (k := k) hk
  have hat' := fun k hk => h'.kin (k := k) hk
  have HAT := Lib.hid hat; have HAT' := Lib.hid hat'
  obtain ⟨n, hn⟩ : ∃ n, l.length = n := ⟨_, rfl⟩
  obtain ⟨m, hm2⟩ : ∃ m, l'.length = m := ⟨_, rfl⟩
  have HN := Lib.hid hn; have HM := Lib.hid hm2
  rw [hn] at hc ⊢
  rw [hm2] at hc' ⊢
  clear h h' hat hat' hn hm2
  by_cases hnm : n = m
  · subst hnm
    have e0 : ((n : Int) != (n : Int)) = false := by simp
    go_enter Try.func133, Try.ntmps133
    go_wp2_with fail
    go_loopw [5, 13] (fun _ i wr => ∃ k : Nat, k ≤ n ∧ i = .int .i64 k ∧ Hid (∀ j (h : j < l.length) (h' : j < l'.length), j < k → l[j] = l'[j]) ∧ Gr w wr) (fun _ i _ => n - (intOf i).toNat)
    case atStart => exact ⟨0, Nat.zero_le _, rfl, Lib.hid (fun _ _ _ h => by omega), Gr.refl _⟩
    case round =>
      obtain ⟨k, hk, rfl, HE, hbw⟩ := hrel
      by_cases hlt : k < n
      · have lk : k < l.length := by rw [HN.out]; exact hlt
        have lk' : k < l'.length := by rw [HM.out]; exact hlt
        obtain ⟨g, cap, hv, hcl⟩ := HAT.out k lk
        obtain ⟨g', cap', hv', hcl'⟩ := HAT'.out k lk'
        injection hv with h1 _ h2
        subst h1
        injection hv' with h1' _ h2'
        subst h1'
        have hl1 := World.block_lt_of_cell? w _ hcl
        have hl2 := World.block_lt_of_cell? w _ hcl'
        have r1 := fun n' os => cell_grown (w := wr) (a := ⟨g, k, none⟩) (Nat.lt_of_lt_of_le hl1 hbw.below.size) ((hbw.below.cell (p := ⟨g, k, none⟩) hl1).trans hcl) n' os
        have r2 := fun n' os => cell_grown (w := wr) (a := ⟨g', k, none⟩) (Nat.lt_of_lt_of_le hl2 hbw.below.size) ((hbw.below.cell (p := ⟨g', k, none⟩) hl2).trans hcl') n' os
        have HNX := Lib.hid (fun (h : l[k] = l'[k]) => show ∀ j (h : j < l.length) (h' : j < l'.length), j < k + 1 → l[j] = l'[j] from fun j h1 h2 hj => by
          by_cases e : j = k
          · subst e; exact h
          · exact HE.out j h1 h2 (by omega))
        have HNO := Lib.hid (fun (h : l[k] ≠ l'[k]) => show eqL l l' = false from decide_eq_false fun e => h (by subst e; rfl))
        have k0 : (0 : Int) ≤ (k : Int) := by omega
        have k1 : (k : Int) < (n : Int) := by omega
        generalize l[k] = y at *
        generalize l'[k] = z at *
        clear hcl hcl' hl1 hl2 h2 h2'
        by_cases hyz : y = z
        · have HS := Lib.hid (HNX.out hyz)
          have e1 : (y != z) = false := by rw [bne_eq_false_iff_eq]; exact hyz
          clear hyz
          go_wp2_with fail
          refine Go.wp_region_quiet_grown mixed (by kernel_rfl) ?_
          repeat (go_big_quiet_step (fail))
          refine Go.wpQuiet_nil ?_
          intro _ hw'
          obtain ⟨⟨nq, osq⟩, hw''⟩ := hw'
          subst hw''
          go_wp2_with fail
          go_roundw
          case rel => exact ⟨k + 1, by omega, by go_num, HS, hbw.trans (Gr.grown _ _ _)⟩
          case measure => simp [intOf]; omega
        · have HF := Lib.hid (HNO.out hyz)
          have e1 : (y != z) = true := by rw [bne_iff_ne]; exact hyz
          clear hyz
          go_wp2_with fail
          refine Go.wp_region_quiet_grown mixed (by kernel_rfl) ?_
          repeat (go_big_quiet_step (fail))
          refine Go.wpQuiet_nil ?_
          intro _ hw'
          obtain ⟨⟨nq, osq⟩, hw''⟩ := hw'
          subst hw''
          go_wp2_with fail
          go_ret
          exact ⟨by rw [HF.out]; rfl, hbw.trans (Gr.grown _ _ _)⟩
      · have HF := Lib.hid (show eqL l l' = true from decide_eq_true (List.ext_getElem (HN.out.trans HM.out.symm) fun j h1 h2 => HE.out j h1 h2 (by have := HN.out; omega)))
        go_wp2_with fail
        go_ret
        exact ⟨by rw [HF.out]; rfl, hbw⟩
  · have HF := Lib.hid (show eqL l l' = false from decide_eq_false fun e => hnm (by rw [← HN.out, ← HM.out, e]))
    have e1 : ((n : Int) != (m : Int)) = true := by rw [bne_iff_ne]; omega
    have e2 : ((n : Int) == (m : Int)) = false := by rw [beq_eq_false_iff_ne]; omega
    go_enter Try.func133, Try.ntmps133
    go_wp2_with fail
    all_goals (go_ret; exact ⟨by rw [HF.out]; rfl, Gr.refl _⟩)
end Go.Proofs.Ytkghkioghkapcaa
