/-
  Layer 6's statements, walked, over any clock: what is set comes once.
-/
import Derived.Test.YtpepmjkkckgkkaaAlarmT
import Derived.Test.YtpepmjkkckgkkaaAlarmO
namespace Go.Proofs.Ytpepmjkkckgkkaa
open Go.RowKit

theorem not_moved {F F' : Nat → Prop} {w w' : World} {base : Nat} {e : TypeId} {size n : Nat} {v : Value} {xs : List Value} (m : Moved F F' w w') (h : w.ownsRow base e size v n xs) (hn : ∀ g, v.ownBlock = some g → ¬ F g) : ∀ g, v.ownBlock = some g → ¬ F' g := by
  intro g hg hf
  rcases m.2 g hf with h' | h'
  · exact hn g hg h'
  · have := (h.lt g hg).2
    omega
/-- What is told at a place: an index, and its time. -/
theorem told {now : Int} {T : List Int} {n q i : Nat} (hT : T.length = n) (hd : dueN now (laidT T n) = q) (hq : q ≤ n) (hi : i < q) : ∃ (j : Nat) (hj : j < T.length) (h1 : i < (ids ((laidT T n).take q)).length) (h2 : i < (laidT T n).length), (ids ((laidT T n).take q))[i] = (j : Int) ∧ (laidT T n)[i] = (T[j], (j : Int)) ∧ T[j] ≤ now := by
  have hl := length_laidT T n
  have h2 : i < (laidT T n).length := by omega
  obtain ⟨j, hj, he, hle⟩ := told_at (by rw [hd]; exact hi) h2
  have hjl : j < T.length := by omega
  have hg : T.getD j 0 = T[j] := by simp [List.getD, List.getElem?_eq_getElem hjl]
  rw [hg] at he hle
  refine ⟨j, hjl, by simp [ids]; omega, h2, ?_, he, hle⟩
  simp [ids, he]

set_option maxRecDepth 100000 in
set_option maxHeartbeats 16000000 in
theorem walk_once {K : World → (Nat → Prop) → Addr → List Due → Prop} (Tk : Ticks K) (a : Option Addr) (n cap : Nat) (zs : List Int) (now : Int) (w : World) (hl : zs.length = n) (hr : Rd w w.heap.size a (ci zs)) :
    Calls Try.prog 4 #[.slice a n cap, .int .i64 now] w fun e w' => e = .returned (.bool true) ∧ Below w.heap.size w w' := by
  have HT := Lib.hid Tk; clear Tk
  have HL := Lib.hid hl; clear hl
  by_cases hlong : 300 < n
  · go_enter Try.func4, Try.ntmps4
    go_wp2_with fail
    go_ret
    exact ⟨rfl, Below.refl _ _⟩
  go_enter Try.func4, Try.ntmps4
  go_wp2_with fail
  refine (HT.out.new w).mono ?_
  rintro e w1 ⟨p, F1, rfl, k1, b1, f1⟩
  go_wp2_with fail
  go_loopw [6, 7] (fun e i wr => ∃ (k : Nat), k ≤ n ∧ e = .int .i64 (earlyT now zs k : Nat) ∧ i = .int .i64 k ∧ Hid (∃ F, K wr F p (laidT zs k) ∧ Below w.heap.size w wr ∧ (∀ x, F x → w.heap.size ≤ x))) (fun _ i _ => n - (intOf i).toNat)
  case atStart => exact ⟨0, Nat.zero_le _, rfl, rfl, Lib.hid ⟨F1, k1, b1, f1⟩⟩
  case round =>
    obtain ⟨k, hk, rfl, rfl, hrel⟩ := hrel
    obtain ⟨F, kk, bk, fk⟩ := hrel.out
    clear hrel
    have hle := earlyT_le now zs k
    by_cases hlt : k < n
    · obtain ⟨b, o, rfl, hB1, hc⟩ := hr.pos (by rw [length_ci, HL.out]; omega)
      have lk : k < zs.length := by rw [HL.out]; exact hlt
      have hcw := hc k (by rw [length_ci]; exact lk)
      rw [ci_get] at hcw
      have hck := (bk.cell (p := ⟨b, o + k, none⟩) hB1).trans hcw
      clear hc
      have hgd : zs.getD k 0 = zs[k] := by simp [List.getD, List.getElem?_eq_getElem lk]
      have hS : setD (k : Int) zs[k] (laidT zs k) = laidT zs (k + 1) := by rw [← hgd]; rfl
      have hE : earlyT now zs (k + 1) = earlyT now zs k + (if zs[k] ≤ now then 1 else 0) := by rw [← hgd]; rfl
      have HS := Lib.hid hS; have HE := Lib.hid hE
      have hlen := length_laidT zs k
      have HLN := Lib.hid hlen
      clear hS hE hgd hlen
      have k0 : (0 : Int) ≤ (k : Int) := by omega
      have k1' : (k : Int) < (n : Int) := by omega
      generalize zs[k] = x at *
      generalize earlyT now zs k = q at *
      go_wp2_with fail
      refine (HT.out.set _ F p _ (k : Int) x (i64_of (by omega) (by omega)) kk (by rw [HLN.out]; omega)).mono ?_
      rintro e w2 ⟨rfl, F2, k2, m2⟩
      rw [HS.out] at k2
      have b2 := bk.trans (m2.below fk bk.size)
      have f2 := m2.up fk bk.size
      have hck2 := (b2.cell (p := ⟨b, o + k, none⟩) hB1).trans hcw
      clear bk fk m2 kk hck hcw
      by_cases hx : x ≤ now
      · have hE2 : earlyT now zs (k + 1) = q + 1 := by rw [HE.out, if_pos hx]
        have HE2 := Lib.hid hE2; clear hE2
        go_wp2
        go_roundw
        case rel => exact ⟨k + 1, by omega, by rw [HE2.out]; go_num, by go_num, Lib.hid ⟨F2, k2, b2, f2⟩⟩
        case measure => simp [intOf]; omega
      · have hE2 : earlyT now zs (k + 1) = q := by rw [HE.out, if_neg hx]; rfl
        have HE2 := Lib.hid hE2; clear hE2
        go_wp2
        go_roundw
        case rel => exact ⟨k + 1, by omega, by rw [HE2.out], by go_num, Lib.hid ⟨F2, k2, b2, f2⟩⟩
        case measure => simp [intOf]; omega
    · obtain rfl : k = n := by omega
      have hrise := (HT.out.rise kk).1
      have hdn := dueN_laidT (now := now) hrise
      have hlen := length_laidT zs k
      have hm := earlyT_le now zs k
      have HRS := Lib.hid hrise
      have HLN := Lib.hid hlen
      have HDN := Lib.hid hdn
      have hrest := dueN_rest (now := now) (S := laidT zs k)
      rw [hdn] at hrest
      have HRT := Lib.hid hrest
      clear hrise hdn hlen hrest
      generalize hq : earlyT now zs k = q at *
      clear hq
      go_wp2_with fail
      refine (HT.out.due _ F p _ now kk (by rw [HLN.out]; omega)).mono ?_
      rintro e w2 ⟨o2, F2, rfl, own2, k2, m2, n2⟩
      rw [HDN.out] at own2 k2
      have b2 := bk.trans (m2.below fk bk.size)
      have f2 := m2.up fk bk.size
      obtain ⟨a2, c2, rfl⟩ : ∃ a2 c2, o2 = .slice a2 q c2 := by obtain ⟨a2, c2, rfl, _⟩ := own_rd own2; exact ⟨a2, c2, rfl⟩
      clear bk fk m2 kk
      have hld : (List.drop q (laidT zs k)).length = k - q := by rw [List.length_drop, HLN.out]
      have HLD := Lib.hid hld; clear hld
      have hsub : ((k - q : Nat) : Int) = (k : Int) - (q : Int) := by omega
      have HSUB := Lib.hid hsub; clear hsub
      go_wp2_with fail
      refine (HT.out.len _ F2 p _ k2 (by rw [HLD.out]; omega)).mono ?_
      rintro e w3 ⟨rfl, F3, k3, m3⟩
      have b3 := b2.trans (m3.below f2 b2.size)
      have f3 := m3.up f2 b2.size
      have own3 := own_keeps own2 m3.1 n2
      rw [HLD.out, HSUB.out]
      have n3 := not_moved m3 own2 n2
      clear own2 n2 m3 k2 b2 f2
      go_wp2_with fail
      refine (HT.out.due _ F3 p _ now k3 (by rw [HLD.out]; omega)).mono ?_
      rintro e w4 ⟨o4, F4, rfl, own4, k4, m4, _⟩
      rw [HRT.out] at own4
      have b4 := b3.trans (m4.below f3 b3.size)
      have own5 := own_keeps own3 m4.1 n3
      obtain ⟨a4, c4, rfl⟩ : ∃ a4 c4, o4 = .slice a4 0 c4 := by obtain ⟨a4, c4, rfl, _⟩ := own_rd own4; exact ⟨a4, c4, rfl⟩
      obtain ⟨a5, c5, he, rl⟩ := own_rd own5
      cases he
      have rt := hr.below b4 (Nat.le_refl _)
      have hsz4 := b4.size
      clear own3 n3 m4 k3 b3 f3 own4 own5 k4
      go_wp2_with fail
      go_loopw [9] (fun i wr => ∃ (j : Nat), j ≤ q ∧ i = .int .i64 j ∧ Below w4.heap.size w4 wr) (fun i _ => q - (intOf i).toNat)
      case atStart => exact ⟨0, Nat.zero_le _, rfl, Below.refl _ _⟩
      case round =>
        obtain ⟨j, hj, rfl, hb⟩ := hrel
        by_cases hlt : j < q
        · have rl' := rl.below hb (Nat.le_refl _)
          have rt' := rt.below hb hsz4
          obtain ⟨j2, hj2, hi2, hs2, e2, g2, t2⟩ := told HL.out HDN.out hm hlt
          obtain ⟨lb, lo, rfl, _, hcl⟩ := rl'.pos (by rw [length_ci]; omega)
          obtain ⟨tb, to_, rfl, _, hct⟩ := rt'.pos (by rw [length_ci]; omega)
          have d2 := hcl j (by rw [length_ci]; exact hi2)
          rw [ci_get, e2] at d2
          have x2 := hct j2 (by rw [length_ci]; exact hj2)
          rw [ci_get] at x2
          have z0 : (0 : Int) ≤ (j2 : Int) := by omega
          have z1 : (j2 : Int) < (k : Int) := by have := HL.out; omega
          have z2 : j2 < k := by have := HL.out; omega
          have z3 : (j : Int) < (q : Int) := by omega
          have hj0 : (0 : Int) ≤ (j : Int) := by omega
          by_cases hz : j = 0
          · have hz1 : ¬ (0 : Int) < (j : Int) := by omega
            subst hz
            clear hcl hct
            generalize zs[j2] = y2 at *
            have d3 : wr.cell? ⟨lb, lo, none⟩ = some (.int .i64 (j2 : Int)) := d2
            clear d2
            go_wp2_with fail
            go_quiet (fail)
            go_wp2
            go_roundw
            case rel => exact ⟨1, by omega, by go_num, hb.trans ⟨rfl, rfl, rfl, Nat.le_refl _, fun _ _ => rfl⟩⟩
            case measure => simp [intOf]; omega
          · obtain ⟨i, hi⟩ : ∃ i : Nat, (j : Int) - 1 = (i : Int) := ⟨j - 1, by omega⟩
            have hz1 : (0 : Int) < (j : Int) := by omega
            have hz2 : decide ((0 : Int) < (j : Int)) = true := decide_eq_true hz1
            have hz3 : 0 < j := by omega
            obtain ⟨j1, hj1, hi1, hs1, e1, g1, t1⟩ := told (i := i) HL.out HDN.out hm (by omega)
            have d1 := hcl i (by rw [length_ci]; exact hi1)
            rw [ci_get, e1] at d1
            have x1 := hct j1 (by rw [length_ci]; exact hj1)
            rw [ci_get] at x1
            have v0 : (0 : Int) ≤ (j1 : Int) := by omega
            have v1 : (j1 : Int) < (k : Int) := by have := HL.out; omega
            have v2 : j1 < k := by have := HL.out; omega
            have hij : i + 1 = j := by omega
            have hord : ¬ lq (laidT zs k)[j] (laidT zs k)[i] := by
              have := told_order HRS.out (i := i) (by omega)
              simpa only [hij] using this
            rw [g1, g2] at hord
            have hor : zs[j1] < zs[j2] ∨ zs[j1] = zs[j2] ∧ (j1 : Int) < (j2 : Int) := by unfold lq at hord; simp only at hord; omega
            have hi0 : (0 : Int) ≤ (i : Int) := by omega
            have hi1' : (i : Int) < (q : Int) := by omega
            have hwi : IntKind.i64.wrap (i : Int) = (i : Int) := IntWalk.i64_in _ (by omega)
            have hwj : IntKind.i64.wrap ((j : Int) - 1) = (i : Int) := by rw [hi]; exact hwi
            clear hord hcl hct g1 g2 e1 e2 hs1 hs2 hi1 hi2 hij
            generalize zs[j2] = y2 at *
            generalize zs[j1] = y1 at *
            have HORD := Lib.hid hor; clear hor
            have HB := Lib.hid hb
            have HJQ := Lib.hid (show j + 1 ≤ q by omega)
            have HMS := Lib.hid (show q - (j + 1) < q - j by omega)
            have HW := Lib.hid (show wrap64 ((j : Int) + 1) = ((j + 1 : Nat) : Int) by rw [IntWalk.wrap64_in _ (by omega)]; omega)
            clear rl rl' rt rt' hb hr hj2 hj1 b1 k1 f1 hle hm
            rcases HORD.out with hor | hor
            · have hgt : decide (y2 < y1) = false := by simp; omega
              have hne : (y1 == y2) = false := by simp; omega
              clear hor
              go_wp2_with fail
              go_quiet (fail)
              go_wp2
              go_roundw
              case rel => exact ⟨j + 1, HJQ.out, by rw [HW.out], HB.out.trans ⟨rfl, rfl, rfl, Nat.le_refl _, fun _ _ => rfl⟩⟩
              case measure => have := HMS.out; rw [HW.out]; simp [intOf]; omega
            · obtain ⟨rfl, hor⟩ := hor
              have hgt : decide ((j2 : Int) ≤ (j1 : Int)) = false := by simp; omega
              have hgt2 : decide (y1 < y1) = false := by simp
              have hgt3 : ¬ j2 ≤ j1 := by omega
              clear hor
              go_wp2_with fail
              go_quiet (fail)
              go_wp2
              go_roundw
              case rel => exact ⟨j + 1, HJQ.out, by rw [HW.out], HB.out.trans ⟨rfl, rfl, rfl, Nat.le_refl _, fun _ _ => rfl⟩⟩
              case measure => have := HMS.out; rw [HW.out]; simp [intOf]; omega
        · go_wp2_with fail
          refine (awake_shown HT.out wr).mono ?_
          rintro e w9 ⟨rfl, b9⟩
          have b8 := b4.trans (hb.mono hsz4)
          go_wp2
          go_ret
          exact ⟨rfl, b8.trans (b9.mono b8.size)⟩
end Go.Proofs.Ytpepmjkkckgkkaa
