/-
  Layer 8's law: told.
-/
import Derived.Test.YtekhkmhpeefenaaRolN
import Derived.Test.YtekhkmhpeefenaaRolL
import Derived.Test.YtekhkmhpeefenaaQuietR
namespace Go.Proofs.Ytekhkmhpeefenaa
set_option linter.unusedVariables false
open Go.RowKit Go.Sort Go.Shelf

/-- Blocks that are not written over. -/
def Out (C D : Nat) (k : Nat) : Prop := k < C ∨ D ≤ k
theorem alloc4' (w : World) (c0 c1 c2 c3 : Obj) : ((((w.alloc c0).alloc c1).alloc c2).alloc c3).heap[w.heap.size]? = some c0 ∧ ((((w.alloc c0).alloc c1).alloc c2).alloc c3).heap[w.heap.size + 1]? = some c1 ∧ ((((w.alloc c0).alloc c1).alloc c2).alloc c3).heap[w.heap.size + 1 + 1]? = some c2 ∧
    ((((w.alloc c0).alloc c1).alloc c2).alloc c3).heap[w.heap.size + 1 + 1 + 1]? = some c3 ∧ Below w.heap.size w ((((w.alloc c0).alloc c1).alloc c2).alloc c3) ∧ ((((w.alloc c0).alloc c1).alloc c2).alloc c3).heap.size = w.heap.size + 1 + 1 + 1 + 1 := by
  have e1 := size_box w c0
  have e2 := size_box (w.alloc c0) c1
  have e3 := size_box ((w.alloc c0).alloc c1) c2
  have e4 := size_box (((w.alloc c0).alloc c1).alloc c2) c3
  have r1 := heap_alloc_new (w.alloc c0) c1
  have r2 := heap_alloc_new ((w.alloc c0).alloc c1) c2
  have r3 := heap_alloc_new (((w.alloc c0).alloc c1).alloc c2) c3
  rw [e1] at e2 r1
  rw [e2] at e3 r2
  rw [e3] at e4 r3
  refine ⟨?_, ?_, ?_, r3, ?_, e4⟩
  · rw [Below.heap_alloc _ _ _ (by omega), Below.heap_alloc _ _ _ (by omega), Below.heap_alloc _ _ _ (by omega)]; exact heap_alloc_new w c0
  · rw [Below.heap_alloc _ _ _ (by omega), Below.heap_alloc _ _ _ (by omega)]; exact r1
  · rw [Below.heap_alloc _ _ _ (by omega)]; exact r2
  · exact ((((Below.refl _ w).alloc (Nat.le_refl _) _).alloc (by omega) _).alloc (by omega) _).alloc (by omega) _

theorem StrRow.keep {w w' : World} {B : Nat} {e : TypeId} {sz n : Nat} {v : Value} (h : StrRow w B e sz v n) {S : Nat → Prop} (hk : Keeps S w w') (hs : ∀ g, v.ownBlock = some g → S g) : StrRow w' B e sz v n := by
  obtain ⟨xs, ⟨hl, h | ⟨g, cap, cur, rfl, h2, h3, h4⟩⟩, hx⟩ := h
  · exact ⟨xs, ⟨hl, .inl h⟩, hx⟩
  · exact ⟨xs, ⟨hl, .inr ⟨g, cap, cur, rfl, h2, hk.row h3 (hs g rfl), h4⟩⟩, hx⟩
theorem StrRow.apart {w : World} {B B' : Nat} {e e' : TypeId} {sz sz' n n' : Nat} {v v' : Value} (h : StrRow w B e sz v n) (h' : StrRow w B' e' sz' v' n') (he : e ≠ e') {g : Nat} (hg : v.ownBlock = some g) : v'.ownBlock ≠ some g := by
  obtain ⟨_, ⟨_, ⟨rfl, _⟩ | ⟨g1, _, _, rfl, _, h1, _⟩⟩, _⟩ := h
  · cases hg
  · cases hg
    obtain ⟨_, ⟨_, ⟨rfl, _⟩ | ⟨g2, _, _, rfl, _, h2, _⟩⟩, _⟩ := h'
    · intro h; cases h
    · intro h
      cases h
      rw [h1] at h2
      injection h2 with h2
      injection h2 with _ h2 _
      exact he h2

set_option maxRecDepth 100000 in
set_option maxHeartbeats 16000000 in
theorem law08_told_any (C D : Nat) (G r : Rols) (vn vm un um pn pm qn qm : Value) (c : Int) (w : World) (hCD : C ≤ D) (hD : D ≤ w.heap.size) (hn : OwnX strQ w C 9 1 vn G.names) (hm : OwnX memQ w C 45 2 vm G.mems)
    (hnD : ∀ g, vn.ownBlock = some g → g < D) (hmD : ∀ g, vm.ownBlock = some g → g < D) (hw : rolP w (· < w.heap.size) [un, um] G) (hr : rolP w (· < C) [pn, pm] r) (ho : rolP w (· < C) [qn, qm] r) :
    Calls Try.prog 19 #[.agg #[vn, vm], .int .i64 c, .agg #[un, um], .int .i64 c, .agg #[pn, pm], .agg #[qn, qm]] w fun e w' => e = .returned (.bool true) ∧ Keeps (Out C D) w w' := by
  have hgr := rol_keep (rol_own hn hm) (S' := (· < w.heap.size)) (fun k hk => hk.lt) Keeps.refl
  obtain ⟨an, cn, rfl, _, hcn⟩ := id hn.form
  obtain ⟨am, cm, rfl, _, hcm⟩ := id hm.form
  obtain ⟨un1, un2, un3, um1, um2, um3, rfl, rfl, hun, hum, _, _, _, _, _, _⟩ := rol_form hw
  obtain ⟨pn1, pn2, pn3, pm1, pm2, pm3, rfl, rfl, hpn, hpm, _, _, _, _, _, _⟩ := rol_form hr
  obtain ⟨qn1, qn2, qn3, qm1, qm2, qm3, rfl, rfl, hqn, hqm, _, _, _, _, _, _⟩ := rol_form ho
  have hs1 := StrRow.of_strs hn
  have hs2 := StrRow.of_mems hm
  unfold maxLen at hcn hcm
  obtain ⟨nn, hnn⟩ : ∃ n, G.names.length = n := ⟨_, rfl⟩
  obtain ⟨mn, hmn⟩ : ∃ n, G.mems.length = n := ⟨_, rfl⟩
  have hnn9 : nn ≤ 9223372036854775807 := by omega
  have hmn9 : mn ≤ 9223372036854775807 := by omega
  rw [hnn] at hgr hs1 hnD
  rw [hmn] at hgr hs2 hmD
  rw [hnn, hmn]
  obtain ⟨b0, b1, b2, b3, hbw, hsz⟩ := alloc4' w (.cells #[.slice an nn cn, .slice am mn cm] 25) (.cells #[.slice un1 un2 un3, .slice um1 um2 um3] 25) (.cells #[.slice pn1 pn2 pn3, .slice pm1 pm2 pm3] 25) (.cells #[.slice qn1 qn2 qn3, .slice qm1 qm2 qm3] 25)
  obtain ⟨w0, hw0⟩ : ∃ w0, w0 = ((((w.alloc (.cells #[.slice an nn cn, .slice am mn cm] 25)).alloc (.cells #[.slice un1 un2 un3, .slice um1 um2 um3] 25)).alloc (.cells #[.slice pn1 pn2 pn3, .slice pm1 pm2 pm3] 25)).alloc (.cells #[.slice qn1 qn2 qn3, .slice qm1 qm2 qm3] 25)) := ⟨_, rfl⟩
  rw [← hw0] at b0 b1 b2 b3 hbw hsz
  have hall : Keeps (· < w.heap.size) w w0 := Keeps.of_below hbw fun _ h => h
  have HS := Lib.hid (ref_rsame_any w.heap.size G G _ _ _ _ w0 (rol_keep hgr (fun _ h => h) hall) (rol_keep hw (fun _ h => h) hall) hbw.size)
  rw [decide_eq_true (show G = G from rfl)] at HS
  have HR := Lib.hid (fun W (hW : Keeps (Out C D) w W) => ref_rsame_any C r r _ _ _ _ W (rol_keep hr (fun _ h => h) (hW.mono fun k hk => .inl hk)) (rol_keep ho (fun _ h => h) (hW.mono fun k hk => .inl hk)) (Nat.le_trans (Nat.le_trans hCD hD) hW.size))
  rw [decide_eq_true (show r = r from rfl)] at HR
  have HB0 := Lib.hid b0; have HB1 := Lib.hid b1; have HB2 := Lib.hid b2; have HB3 := Lib.hid b3; have HSZ := Lib.hid hsz
  have HK0 := Lib.hid (show Keeps (Out C D) w w0 from Keeps.of_below (S := (· < w.heap.size)) hbw (fun _ h => h) |>.trans Keeps.refl |> fun h => ⟨h.os, h.tape, h.output, h.size, fun k hk _ => h.block k hk hk⟩)
  have HS1 := Lib.hid (hs1.keep hall fun g hg => Nat.lt_of_lt_of_le (hnD g hg) hD)
  have HS2 := Lib.hid (hs2.keep hall fun g hg => Nat.lt_of_lt_of_le (hmD g hg) hD)
  have HND := Lib.hid hnD; have HMD := Lib.hid hmD
  clear hgr hn hm hw hr ho hs1 hs2 hun hum hpn hpm hqn hqm hnn hmn b0 b1 b2 b3 hbw hsz hall hnD hmD
  have x0 := box_at HB0.out 0 rfl
  have x1 := box_at HB0.out 1 rfl
  have y0 := box_at HB1.out 0 rfl
  have y1 := box_at HB1.out 1 rfl
  subst hw0
  go_enter Try.func19, Try.ntmps19
  go_wp2_with fail
  generalize World.alloc (World.alloc (World.alloc (World.alloc w _) _) _) _ = w0 at *
  refine HS.out.mono ?_
  rintro e w1 ⟨rfl, g1⟩
  have hk1 : Keeps (fun _ => True) w0 w1 := ⟨g1.below.os, g1.below.tape, g1.below.output, g1.below.size, fun k hk _ => g1.below.block k hk⟩
  have HC0 := Lib.hid (hk1.row HB0.out trivial); have HC2 := Lib.hid (hk1.row HB2.out trivial); have HC3 := Lib.hid (hk1.row HB3.out trivial)
  have HK1 := Lib.hid (HK0.out.trans (hk1.mono fun _ _ => trivial))
  have HT0 : Hid (StrRow w1 C 9 1 (.slice an nn cn) nn ∧ StrRow w1 C 45 2 (.slice am mn cm) mn ∧ Keeps (Out C D) w1 w1) := Lib.hid ⟨HS1.out.keep hk1 (fun _ _ => trivial), HS2.out.keep hk1 (fun _ _ => trivial), Keeps.refl⟩
  clear g1 hk1 x0 x1 y0 y1
  go_wp2_with fail
  go_loopw [14] (fun i wr => ∃ k : Nat, k ≤ nn ∧ i = .int .i64 k ∧ Hid (StrRow wr C 9 1 (.slice an nn cn) nn ∧ StrRow wr C 45 2 (.slice am mn cm) mn ∧ Keeps (Out C D) w1 wr)) (fun i _ => nn - (intOf i).toNat)
  case atStart => exact ⟨0, Nat.zero_le _, rfl, HT0⟩
  case round =>
    clear HT0
    obtain ⟨k, hk, rfl, HR0⟩ := hrel
    obtain ⟨hs1, hs2, hkp⟩ := HR0.out
    have r0 := hkp.row HC0.out (.inr hD)
    have x0 := box_at r0 0 rfl
    have x1 := box_at r0 1 rfl
    by_cases hlt : k < nn
    · obtain ⟨g, s, rfl, hg, hc, hz⟩ := hs1.at (o := k) (by omega)
      have k0 : (0 : Int) ≤ (k : Int) := by omega
      have k1 : (k : Int) < (nn : Int) := by omega
      have hgD := HND.out g rfl
      have hks : Keeps (· ≠ g) wr (wr.setCell ⟨g, k, none⟩ (.string ⟨#[111, 118, 101, 114]⟩)) := Keeps.refl.setCell (by simp) _
      have HN := Lib.hid (And.intro (hs1.put k ⟨#[111, 118, 101, 114]⟩) (And.intro (hs2.keep hks fun g' hg' e => hs1.apart hs2 (by decide) (show (Value.slice (some ⟨g, 0, none⟩) nn cn).ownBlock = some g from rfl) (by rw [← e]; exact hg')) (hkp.trans (hks.mono fun j hj e => by rcases hj with h | h <;> omega))))
      have HKN := Lib.hid (show k + 1 ≤ nn by omega)
      clear hs1 hs2 hkp HR0 hks r0 hgD
      go_wp2_with fail
      go_roundw
      case rel => exact ⟨k + 1, HKN.out, by go_num, HN⟩
      case measure => have := HKN.out; simp [intOf]; omega
    · have HT1 : Hid (StrRow wr C 45 2 (.slice am mn cm) mn ∧ Keeps (Out C D) w1 wr) := Lib.hid ⟨hs2, hkp⟩
      clear hs1 hs2 hkp HR0 r0
      go_wp2_with fail
      clear x0 x1 hlt
      go_loopw [15] (fun i wx => ∃ k : Nat, k ≤ mn ∧ i = .int .i64 k ∧ Hid (StrRow wx C 45 2 (.slice am mn cm) mn ∧ Keeps (Out C D) w1 wx)) (fun i _ => mn - (intOf i).toNat)
      case atStart => exact ⟨0, Nat.zero_le _, rfl, HT1⟩
      case round =>
        clear HT1
        obtain ⟨k, hk, rfl, HR0⟩ := hrel
        obtain ⟨hs2, hkp⟩ := HR0.out
        have r0 := hkp.row HC0.out (.inr hD)
        have x0 := box_at r0 0 rfl
        have x1 := box_at r0 1 rfl
        by_cases hlt : k < mn
        · obtain ⟨g, s, rfl, hg, hc, hz⟩ := hs2.at (o := k * 2) (by omega)
          have k0 : (0 : Int) ≤ (k : Int) := by omega
          have k1 : (k : Int) < (mn : Int) := by omega
          have hgD := HMD.out g rfl
          have hks : Keeps (· ≠ g) wr (wr.setCell ⟨g, k * 2, none⟩ (.string ⟨#[111, 118, 101, 114]⟩)) := Keeps.refl.setCell (by simp) _
          have HN := Lib.hid (And.intro (hs2.put (k * 2) ⟨#[111, 118, 101, 114]⟩) (hkp.trans (hks.mono fun j hj e => by rcases hj with h | h <;> omega)))
          have HKN := Lib.hid (show k + 1 ≤ mn by omega)
          clear hs2 hkp HR0 hks r0 hgD
          go_wp2_with fail
          go_roundw
          case rel => exact ⟨k + 1, HKN.out, by go_num, HN⟩
          case measure => have := HKN.out; simp [intOf]; omega
        · have r2 := hkp.row HC2.out (.inr (by omega))
          have r3 := hkp.row HC3.out (.inr (by omega))
          have p0 := box_at r2 0 rfl
          have p1 := box_at r2 1 rfl
          have q0 := box_at r3 0 rfl
          have q1 := box_at r3 1 rfl
          have HKE := Lib.hid (HK1.out.trans hkp)
          have HRE := Lib.hid (HR.out wr HKE.out)
          clear hs2 hkp HR0 r0 r2 r3
          go_wp2_with fail
          refine HRE.out.mono ?_
          rintro e w9 ⟨rfl, g9⟩
          have HF := Lib.hid (HKE.out.trans (show Keeps (Out C D) wr w9 from ⟨g9.below.os, g9.below.tape, g9.below.output, g9.below.size, fun k hk _ => g9.below.block k hk⟩))
          clear g9
          go_wp2_with fail
          go_ret
          exact ⟨rfl, HF.out⟩
end Go.Proofs.Ytekhkmhpeefenaa
