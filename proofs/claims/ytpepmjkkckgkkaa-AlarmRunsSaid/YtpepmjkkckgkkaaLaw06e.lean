/-
  Layer 6's statement on any calls, walked, over any clock.
-/
import Derived.Test.YtpepmjkkckgkkaaLaw06d
import Derived.Test.YtpepmjkkckgkkaaSetsC
import Derived.Deep.RegionHeld3
namespace Go.Proofs.Ytpepmjkkckgkkaa
open Go.RowKit

/-- A call as cells: kind, id, time. -/
def opv (e : Int × Int × Int) : List Value := [.int .i64 e.1, .int .i64 e.2.1, .int .i64 e.2.2]
theorem opv_at {w : World} {G : Nat → Prop} {a : Option Addr} {zs : List (Int × Int × Int)} (h : RdT w G a 3 (zs.map opv)) {k : Nat} (hk : k < zs.length) :
    ∃ b o, a = some ⟨b, o, none⟩ ∧ G b ∧ w.cell? ⟨b, o + k * 3, none⟩ = some (.int .i64 zs[k].1) ∧ w.cell? ⟨b, o + k * 3 + 1, none⟩ = some (.int .i64 zs[k].2.1) ∧ w.cell? ⟨b, o + k * 3 + 2, none⟩ = some (.int .i64 zs[k].2.2) := by
  rcases h with h | ⟨b, o, rfl, hb, hc⟩
  · have := congrArg List.length h
    rw [List.length_map] at this
    simp at this
    subst this
    simp at hk
  · have hx : (zs.map opv)[k]? = some (opv zs[k]) := by rw [List.getElem?_map, List.getElem?_eq_getElem hk]; rfl
    exact ⟨b, o, rfl, hb, hc k _ hx 0 _ rfl, hc k _ hx 1 _ rfl, hc k _ hx 2 _ rfl⟩

theorem nextV_is (S : List Due) : ∃ v1 v2 v3 : Int, nextV S = #[.int .i64 v1, .int .i64 v2, .int .i64 v3] := by
  cases S with
  | nil => exact ⟨0, 0, 50, rfl⟩
  | cons x r => exact ⟨x.2, x.1, 0, rfl⟩

set_option maxRecDepth 100000 in
set_option maxHeartbeats 16000000 in
theorem walk_runs {K : World → (Nat → Prop) → Addr → List Due → Prop} (Tk : Ticks K) (a : Option Addr) (n cap : Nat) (zs : List (Int × Int × Int)) (w : World) (hz : ∀ z ∈ zs, I64 z.2.1) (hl : zs.length = n) (hr : RdT w (· < w.heap.size) a 3 (zs.map opv)) :
    Calls Try.prog 3 #[.slice a n cap] w fun e w' => e = .returned (.bool true) ∧ Below w.heap.size w w' := by
  have HT := Lib.hid Tk; clear Tk
  have HL := Lib.hid hl; clear hl
  by_cases hlong : 400 < n
  · go_enter Try.func3, Try.ntmps3
    go_wp2_with fail
    go_ret
    exact ⟨rfl, Below.refl _ _⟩
  go_enter Try.func3, Try.ntmps3
  go_wp2_with fail
  refine (HT.out.new w).mono ?_
  rintro e w1 ⟨p, F1, rfl, k1, b1, f1⟩
  have hc0 : (w1.alloc (.cells #[.slice none 0 0] 28)).cell? ⟨w1.heap.size, 0, none⟩ = some (.slice none 0 0) := cell_of_row _ _ 0 _ _ (0, 0) (heap_alloc_new w1 _)
  have hd0 : Duo K (w1.alloc (.cells #[.slice none 0 0] 28)) (· < w.heap.size) p w1.heap.size [] [] := by
    have hb := (Below.refl w1.heap.size w1).alloc (Nat.le_refl _) (.cells #[.slice none 0 0] 28)
    refine ⟨F1, fun _ => False, HT.out.keep k1 (Keeps.of_below hb (HT.out.lt k1)), ⟨none, 0, hc0, ?_, .inl rfl, fun h => h, Nat.le_refl _, Nat.zero_le _⟩, fun k h => h.elim, fun k _ h => h, fun hf => ?_, fun k hk => ⟨fun hf => ?_, fun h => h, ?_, ?_⟩⟩
    · unfold World.frozen?; rw [heap_alloc_new]; rfl
    · have := HT.out.lt k1 _ hf; omega
    · have := f1 k hf; omega
    · have := b1.size; omega
    · have := b1.size; simp; omega
  have hk0 : Keeps (· < w.heap.size) w (w1.alloc (.cells #[.slice none 0 0] 28)) := Keeps.of_below (b1.alloc b1.size _) (fun _ h => h)
  have HD0 := Lib.hid hd0; have HK0 := Lib.hid hk0
  clear k1 b1 f1 hc0 hd0 hk0
  go_wp2_with fail
  generalize World.alloc w1 _ = w2 at *
  generalize w1.heap.size = m at *
  go_loopw [5] (fun i wr => ∃ (k : Nat), k ≤ n ∧ i = .int .i64 k ∧ Hid (∃ S : List Due, S.length ≤ k ∧ Duo K wr (· < w.heap.size) p m S S ∧ Keeps (· < w.heap.size) w wr)) (fun i _ => n - (intOf i).toNat)
  case atStart => exact ⟨0, Nat.zero_le _, rfl, Lib.hid ⟨[], Nat.le_refl _, HD0.out, HK0.out⟩⟩
  case round =>
    obtain ⟨k, hk, rfl, hrel⟩ := hrel
    obtain ⟨S, hS, hduo, hkp⟩ := hrel.out
    clear hrel
    by_cases hlt : k < n
    · have lk : k < zs.length := by rw [HL.out]; exact hlt
      obtain ⟨b, o, rfl, hB1, q0, q1, q2⟩ := opv_at hr lk
      have c0 := hkp.cell q0 hB1
      have c1 := hkp.cell q1 hB1
      have c2 := hkp.cell q2 hB1
      have k0 : (0 : Int) ≤ (k : Int) := by omega
      have k1' : (k : Int) < (n : Int) := by omega
      clear q0 q1 q2
      have hy := hz zs[k] (List.getElem_mem lk)
      generalize zs[k].1 = x at *
      generalize zs[k].2.1 = y at *
      generalize zs[k].2.2 = z at *
      have d0 := hduo.fresh HT.out (.cells #[.int .i64 x, .int .i64 y, .int .i64 z] 30)
      have x0 : (wr.alloc (.cells #[.int .i64 x, .int .i64 y, .int .i64 z] 30)).cell? ⟨wr.heap.size, 0, none⟩ = some (.int .i64 x) := by rw [cell_of_row _ _ _ _ _ _ (heap_alloc_new wr _)]; rfl
      have x1 : (wr.alloc (.cells #[.int .i64 x, .int .i64 y, .int .i64 z] 30)).cell? ⟨wr.heap.size, 1, none⟩ = some (.int .i64 y) := by rw [cell_of_row _ _ _ _ _ _ (heap_alloc_new wr _)]; rfl
      have x2 : (wr.alloc (.cells #[.int .i64 x, .int .i64 y, .int .i64 z] 30)).cell? ⟨wr.heap.size, 2, none⟩ = some (.int .i64 z) := by rw [cell_of_row _ _ _ _ _ _ (heap_alloc_new wr _)]; rfl
      have kb := hkp.alloc (.cells #[.int .i64 x, .int .i64 y, .int .i64 z] 30)
      have hkn : k + 1 ≤ n := hlt
      have hk4 : k ≤ 400 := by omega
      clear hduo hkp
      by_cases e1 : x = 1
      · subst e1
        go_wp2_with fail
        clear c0 c1 c2
        generalize World.alloc wr _ = wb at *
        generalize wr.heap.size = bx at *
        refine (duo_set HT.out d0 y z hy (by omega)).mono ?_
        rintro e w3 ⟨rfl, h3, g3⟩
        have y1 := g3.cell (p := ⟨bx, 1, none⟩) x1 Also.new
        have y2 := g3.cell (p := ⟨bx, 2, none⟩) x2 Also.new
        have gk3 := kb.trans g3.out
        clear d0 g3 x0 x1 x2 kb
        go_wp2_with fail
        refine (duo_rset HT.out h3 y z (by omega)).mono ?_
        rintro e w4 ⟨rfl, h4, g4⟩
        have gk := gk3.trans g4.out
        have hsl := length_setD_le y z S
        clear h3 g4 y1 y2 gk3
        have TL := Lib.hid (show (setD y z S).length ≤ k + 1 by omega)
        obtain ⟨v1, v2, v3, hv⟩ := nextV_is (setD y z S)
        have hC3 := duo_next HT.out h4 (by omega)
        have hC4 := fun (w5 : World) (h5 : Duo K w5 (Also (fun x => x < w.heap.size) bx) p m (setD y z S) (setD y z S)) => duo_rnext HT.out h5
        rw [hv] at hC3 hC4
        have HC3 := Lib.hid hC3; have HC4 := Lib.hid hC4
        clear hC3 hC4 hv
        go_wp2_with fail
        refine HC3.out.mono ?_
        rintro e w5 ⟨rfl, h5, g5⟩
        have gk5 := gk.trans g5.out
        clear h4 gk g5 HC3
        go_wp2_with fail
        refine (HC4.out _ h5).mono ?_
        rintro e w6 ⟨rfl, h6, g6⟩
        have gk6 := gk5.trans g6.out
        clear h5 gk5 g6 HC4
        obtain ⟨am, cm, hmc⟩ := h6.ref_cell
        have hn6 : Now K w (Also (fun x => x < w.heap.size) bx) p m (setD y z S) am (setD y z S).length cm w6 := ⟨h6, fun k h => .inl h, gk6, rfl, by have := TL.out; omega, hmc⟩
        have NW := now_drew HT.out hn6
        have hmd : w6.drew.cell? ⟨m, 0, none⟩ = some (.slice am (setD y z S).length cm) := hmc
        generalize hl2 : (setD y z S).length = l2 at NW hmd
        clear h6 gk6 hmc hn6
        go_wp2_with fail
        go_region_held3 (fun w' => w'.cell? ⟨m, 0, none⟩ = some (.slice am l2 cm) ∧ Now K w (Also (fun x => x < w.heap.size) bx) p m (setD y z S) am l2 cm w') (first | assumption | (constructor <;> assumption) | go_keep)
          (first | (go_at_call 17; refine (now_len HT.out (by assumption)).mono ?_; rintro e w7 ⟨rfl, h7, hm7⟩))
        have HR := Lib.hid (⟨setD y z S, TL.out, h7.1.mono (fun k h => .inl h), h7.2.2.1⟩ : ∃ S : List Due, S.length ≤ k + 1 ∧ Duo K w7 (fun x => x < w.heap.size) p m S S ∧ Keeps (fun x => x < w.heap.size) w w7)
        clear h7 hm7 NW hmd hl2 hsl TL
        go_wp2
        go_roundw
        case rel => exact ⟨k + 1, hkn, by go_num, HR⟩
        case measure => simp [intOf]; omega
      · have f1 : (x == 1) = false := by simpa using e1
        by_cases e2 : x = 2
        · subst e2
          go_wp2_with fail
          clear c0 c1 c2
          generalize World.alloc wr _ = wb at *
          generalize wr.heap.size = bx at *
          have dd := d0.on HT.out (w' := wb.drew) ⟨rfl, rfl, rfl, Nat.le_refl _, fun _ _ => rfl⟩
          have DD := Lib.hid dd.1; have KK := Lib.hid dd.2
          clear dd d0
          have hC1 := duo_clear HT.out DD.out y hy (by omega)
          have hC2 := fun (w3 : World) (h3 : Duo K w3 (Also (fun x => x < w.heap.size) bx) p m (offD y S) S) => duo_rclear HT.out h3 y (by omega)
          generalize (if hasD y S = true then (0 : Int) else 50) = cd at hC1 hC2
          have HC1 := Lib.hid hC1; have HC2 := Lib.hid hC2
          clear hC1 hC2
          have x1d : wb.drew.cell? ⟨bx, 1, none⟩ = some (.int .i64 y) := x1
          clear x1
          go_region_held3 (fun w' => w'.cell? ⟨bx, 1, none⟩ = some (.int .i64 y)) (first | assumption | go_keep)
            (first
              | (go_at_call 10
                 refine HC1.out.mono ?_
                 rintro e w3 ⟨rfl, h3, g3⟩
                 have y1 := g3.cell (p := ⟨bx, 1, none⟩) x1d Also.new)
              | (go_at_call 11
                 refine (HC2.out _ h3).mono ?_
                 rintro e w4 ⟨rfl, h4, g4⟩
                 have y2 := g4.cell (p := ⟨bx, 1, none⟩) y1 Also.new))
          have gk : Keeps (fun x => x < w.heap.size) w w4 := (kb.trans (b := wb) ⟨g3.os, g3.tape, g3.output, g3.size, fun k hk hs => g3.block k hk (.inl hs)⟩).trans g4.out
          have hsl := length_offD_le y S
          clear h3 g3 g4 y1 y2 kb x0 x1d x2 DD KK HC1 HC2
          have TL := Lib.hid (show (offD y S).length ≤ k + 1 by omega)
          obtain ⟨v1, v2, v3, hv⟩ := nextV_is (offD y S)
          have hC3 := duo_next HT.out h4 (by omega)
          have hC4 := fun (w5 : World) (h5 : Duo K w5 (Also (fun x => x < w.heap.size) bx) p m (offD y S) (offD y S)) => duo_rnext HT.out h5
          rw [hv] at hC3 hC4
          have HC3 := Lib.hid hC3; have HC4 := Lib.hid hC4
          clear hC3 hC4 hv
          go_wp2_with fail
          refine HC3.out.mono ?_
          rintro e w5 ⟨rfl, h5, g5⟩
          have gk5 := gk.trans g5.out
          clear h4 gk g5 HC3
          go_wp2_with fail
          refine (HC4.out _ h5).mono ?_
          rintro e w6 ⟨rfl, h6, g6⟩
          have gk6 := gk5.trans g6.out
          clear h5 gk5 g6 HC4
          obtain ⟨am, cm, hmc⟩ := h6.ref_cell
          have hn6 : Now K w (Also (fun x => x < w.heap.size) bx) p m (offD y S) am (offD y S).length cm w6 := ⟨h6, fun k h => .inl h, gk6, rfl, by have := TL.out; omega, hmc⟩
          have NW := now_drew HT.out hn6
          have hmd : w6.drew.cell? ⟨m, 0, none⟩ = some (.slice am (offD y S).length cm) := hmc
          generalize hl2 : (offD y S).length = l2 at NW hmd
          clear h6 gk6 hmc hn6
          go_wp2_with fail
          go_region_held3 (fun w' => w'.cell? ⟨m, 0, none⟩ = some (.slice am l2 cm) ∧ Now K w (Also (fun x => x < w.heap.size) bx) p m (offD y S) am l2 cm w') (first | assumption | (constructor <;> assumption) | go_keep)
            (first | (go_at_call 17; refine (now_len HT.out (by assumption)).mono ?_; rintro e w7 ⟨rfl, h7, hm7⟩))
          have HR := Lib.hid (⟨offD y S, TL.out, h7.1.mono (fun k h => .inl h), h7.2.2.1⟩ : ∃ S : List Due, S.length ≤ k + 1 ∧ Duo K w7 (fun x => x < w.heap.size) p m S S ∧ Keeps (fun x => x < w.heap.size) w w7)
          clear h7 hm7 NW hmd hl2 hsl TL
          go_wp2
          go_roundw
          case rel => exact ⟨k + 1, hkn, by go_num, HR⟩
          case measure => simp [intOf]; omega
        · have f2 : (x == 2) = false := by simpa using e2
          by_cases e3 : x = 3
          · subst e3
            go_wp2_with fail
            clear c0 c1 c2
            generalize World.alloc wr _ = wb at *
            generalize wr.heap.size = bx at *
            refine (duo_due HT.out d0 z (by omega)).mono ?_
            rintro e w3 ⟨o1, rfl, own3, h3, g3⟩
            have hkb := kb.size
            have y2 := g3.cell (p := ⟨bx, 2, none⟩) x2 Also.new
            have gk3 := kb.trans g3.out
            clear d0 g3 x0 x1 x2 kb
            go_wp2_with fail
            refine (duo_rdue HT.out h3 z (by omega)).mono ?_
            rintro e w4 ⟨o2, rfl, own4, h4, g4⟩
            have own3' := own_keeps own3 g4 (fun g hg => .inr hg)
            have gk4 : Keeps (fun x => x < w.heap.size) w w4 := gk3.trans (g4.mono fun k h => .inl (.inl h))
            have hsl : (S.drop (dueN z S)).length ≤ k := by rw [List.length_drop]; omega
            have hql := dueN_le z S
            have hil : (ids (S.take (dueN z S))).length = dueN z S := by simp [ids, List.length_take, Nat.min_eq_left hql]
            clear h3 g4 y2 gk3 own3
            generalize dueN z S = q at *
            generalize ids (S.take q) = Y at *
            generalize S.drop q = S2 at *
            obtain ⟨a1, cc1, rfl, r1⟩ := own_rd own3'
            obtain ⟨a2, cc2, rfl, r2⟩ := own_rd own4
            have hI := ints_same a1 a2 q cc1 q cc2 _ _ Y Y w4 hil hil r1 r2 (by unfold maxLen; omega) (by unfold maxLen; omega)
            rw [decide_eq_true rfl] at hI
            have HI := Lib.hid hI
            clear hI r1 r2 own4
            go_wp2_with fail
            refine HI.out.mono ?_
            rintro e w5 ⟨rfl, b5⟩
            have own5 := own_keeps own3' (Keeps.of_below b5 (fun k hk => hk)) (fun g hg => (own3'.lt g hg).2)
            have h5 := (h4.on HT.out b5).1
            have gk5 : Keeps (fun x => x < w.heap.size) w w5 := gk4.trans (Keeps.of_below b5 (fun k hk => Nat.lt_of_lt_of_le hk gk4.size))
            have HREL := Lib.hid (⟨Y, hil, own5, h5, gk5⟩ : ∃ Y : List Int, Y.length = q ∧ w5.ownsRow wb.heap.size 3 1 (.slice a1 q cc1) q (ci Y) ∧ Duo K w5 (fun k => Also (fun x => x < w.heap.size) bx k ∨ (Value.slice a1 q cc1).ownBlock = some k) p m S2 S2 ∧ Keeps (fun x => x < w.heap.size) w w5)
            have hq4 : q ≤ 400 := by omega
            have hwb : w.heap.size ≤ wb.heap.size := hkb
            clear own3' h4 gk4 b5 own5 h5 gk5 HI hil
            go_wp2_with fail
            go_loopw [8] (fun i wx => ∃ j : Nat, j ≤ q ∧ i = .int .i64 j ∧ Hid (∃ Y : List Int, Y.length = q ∧ wx.ownsRow wb.heap.size 3 1 (.slice a1 q cc1) q (ci Y) ∧ Duo K wx (fun k => Also (fun x => x < w.heap.size) bx k ∨ (Value.slice a1 q cc1).ownBlock = some k) p m S2 S2 ∧ Keeps (fun x => x < w.heap.size) w wx)) (fun i _ => q - (intOf i).toNat)
            case atStart => exact ⟨0, Nat.zero_le _, rfl, HREL⟩
            case round =>
              obtain ⟨j, hj, rfl, hrel⟩ := hrel
              obtain ⟨Z, hZ, ownx, hx, gkx⟩ := hrel.out
              clear hrel
              by_cases hjq : j < q
              · obtain ⟨g, v0, rfl, hgb, hgc, hgf⟩ := own_at ownx hjq
                have j0 : (0 : Int) ≤ (j : Int) := by omega
                have j1 : (j : Int) < (q : Int) := by omega
                have HX := Lib.hid (⟨Z.set j (-1), by rw [List.length_set]; exact hZ, own_set ownx j, hx.put HT.out (.inr rfl) _, gkx.trans (Keeps.refl.setCell (show ¬ g < w.heap.size by omega) _)⟩ : ∃ Y : List Int, Y.length = q ∧ (wr.setCell ⟨g, j, none⟩ (.int .i64 (-1))).ownsRow wb.heap.size 3 1 (.slice (some ⟨g, 0, none⟩) q cc1) q (ci Y) ∧ Duo K (wr.setCell ⟨g, j, none⟩ (.int .i64 (-1))) (fun k => Also (fun x => x < w.heap.size) bx k ∨ (Value.slice (some ⟨g, 0, none⟩) q cc1).ownBlock = some k) p m S2 S2 ∧ Keeps (fun x => x < w.heap.size) w (wr.setCell ⟨g, j, none⟩ (.int .i64 (-1))))
                clear ownx hx gkx hZ
                go_wp2_with fail
                go_roundw
                case rel => exact ⟨j + 1, by omega, by go_num, HX⟩
                case measure => simp [intOf]; omega
              · have h4 := hx.mono (E' := Also (fun x => x < w.heap.size) bx) (fun k h => .inl h)
                have gk := gkx
                clear hx gkx ownx hZ
                have TL := Lib.hid (show (S2).length ≤ k + 1 by omega)
                obtain ⟨v1, v2, v3, hv⟩ := nextV_is (S2)
                have hC3 := duo_next HT.out h4 (by omega)
                have hC4 := fun (w5 : World) (h5 : Duo K w5 (Also (fun x => x < w.heap.size) bx) p m (S2) (S2)) => duo_rnext HT.out h5
                rw [hv] at hC3 hC4
                have HC3 := Lib.hid hC3; have HC4 := Lib.hid hC4
                clear hC3 hC4 hv
                go_wp2_with fail
                refine HC3.out.mono ?_
                rintro e w5 ⟨rfl, h5, g5⟩
                have gk5 := gk.trans g5.out
                clear h4 gk g5 HC3
                go_wp2_with fail
                refine (HC4.out _ h5).mono ?_
                rintro e w6 ⟨rfl, h6, g6⟩
                have gk6 := gk5.trans g6.out
                clear h5 gk5 g6 HC4
                obtain ⟨am, cm, hmc⟩ := h6.ref_cell
                have hn6 : Now K w (Also (fun x => x < w.heap.size) bx) p m (S2) am (S2).length cm w6 := ⟨h6, fun k h => .inl h, gk6, rfl, by have := TL.out; omega, hmc⟩
                have NW := now_drew HT.out hn6
                have hmd : w6.drew.cell? ⟨m, 0, none⟩ = some (.slice am (S2).length cm) := hmc
                generalize hl2 : (S2).length = l2 at NW hmd
                clear h6 gk6 hmc hn6
                go_wp2_with fail
                go_region_held3 (fun w' => w'.cell? ⟨m, 0, none⟩ = some (.slice am l2 cm) ∧ Now K w (Also (fun x => x < w.heap.size) bx) p m (S2) am l2 cm w') (first | assumption | (constructor <;> assumption) | go_keep)
                  (first | (go_at_call 17; refine (now_len HT.out (by assumption)).mono ?_; rintro e w7 ⟨rfl, h7, hm7⟩))
                have HR := Lib.hid (⟨S2, TL.out, h7.1.mono (fun k h => .inl h), h7.2.2.1⟩ : ∃ S : List Due, S.length ≤ k + 1 ∧ Duo K w7 (fun x => x < w.heap.size) p m S S ∧ Keeps (fun x => x < w.heap.size) w w7)
                clear h7 hm7 NW hmd hl2 hsl TL
                go_wp2
                go_roundw
                case rel => exact ⟨k + 1, hkn, by go_num, HR⟩
                case measure => simp [intOf]; omega
          · have f3 : (x == 3) = false := by simpa using e3
            have h4 := d0
            have gk := kb
            have hsl : S.length ≤ k := hS
            clear d0 kb x1 x2
            have hnv : ∃ v1 v2 v3 : Int, nextV S = #[.int .i64 v1, .int .i64 v2, .int .i64 v3] := nextV_is S
            clear hnv
            go_wp2_with fail
            clear c0 c1 c2
            generalize hwb : World.alloc wr (.cells #[.int .i64 x, .int .i64 y, .int .i64 z] 30) = wb at *
            generalize hbx : wr.heap.size = bx at *
            clear x0 hwb
            have TL := Lib.hid (show (S).length ≤ k + 1 by omega)
            obtain ⟨v1, v2, v3, hv⟩ := nextV_is (S)
            have hC3 := duo_next HT.out h4 (by omega)
            have hC4 := fun (w5 : World) (h5 : Duo K w5 (Also (fun x => x < w.heap.size) bx) p m (S) (S)) => duo_rnext HT.out h5
            rw [hv] at hC3 hC4
            have HC3 := Lib.hid hC3; have HC4 := Lib.hid hC4
            clear hC3 hC4 hv
            go_wp2_with fail
            refine HC3.out.mono ?_
            rintro e w5 ⟨rfl, h5, g5⟩
            have gk5 := gk.trans g5.out
            clear h4 gk g5 HC3
            go_wp2_with fail
            refine (HC4.out _ h5).mono ?_
            rintro e w6 ⟨rfl, h6, g6⟩
            have gk6 := gk5.trans g6.out
            clear h5 gk5 g6 HC4
            obtain ⟨am, cm, hmc⟩ := h6.ref_cell
            have hn6 : Now K w (Also (fun x => x < w.heap.size) bx) p m (S) am (S).length cm w6 := ⟨h6, fun k h => .inl h, gk6, rfl, by have := TL.out; omega, hmc⟩
            have NW := now_drew HT.out hn6
            have hmd : w6.drew.cell? ⟨m, 0, none⟩ = some (.slice am (S).length cm) := hmc
            generalize hl2 : (S).length = l2 at NW hmd
            clear h6 gk6 hmc hn6
            go_wp2_with fail
            go_region_held3 (fun w' => w'.cell? ⟨m, 0, none⟩ = some (.slice am l2 cm) ∧ Now K w (Also (fun x => x < w.heap.size) bx) p m (S) am l2 cm w') (first | assumption | (constructor <;> assumption) | go_keep)
              (first | (go_at_call 17; refine (now_len HT.out (by assumption)).mono ?_; rintro e w7 ⟨rfl, h7, hm7⟩))
            have HR := Lib.hid (⟨S, TL.out, h7.1.mono (fun k h => .inl h), h7.2.2.1⟩ : ∃ S : List Due, S.length ≤ k + 1 ∧ Duo K w7 (fun x => x < w.heap.size) p m S S ∧ Keeps (fun x => x < w.heap.size) w w7)
            clear h7 hm7 NW hmd hl2 hsl TL
            go_wp2
            go_roundw
            case rel => exact ⟨k + 1, hkn, by go_num, HR⟩
            case measure => simp [intOf]; omega
    · have b9 : Below w.heap.size w wr := hkp.below (Nat.le_refl _) (fun _ h => h)
      clear hduo hkp
      go_wp2_with fail
      refine (awake_shown HT.out wr).mono ?_
      rintro e w9 ⟨rfl, b10⟩
      go_wp2
      go_ret
      exact ⟨rfl, b9.trans (b10.mono b9.size)⟩
end Go.Proofs.Ytpepmjkkckgkkaa
