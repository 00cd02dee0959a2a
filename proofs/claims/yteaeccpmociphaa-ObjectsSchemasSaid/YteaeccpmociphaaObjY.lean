/-
  Merged: ObjY, ObjY1.
-/
import Derived.Test.YteaeccpmociphaaObjW
import Derived.Test.YteaeccpmociphaaObjJ
namespace Go.Proofs.Yteaeccpmociphaa
section
/-! Layer 7: strings written over strings, behind a base: what all else reads stays. -/

open Go.RowKit Go.Sort

/-- From w to w' only cells that hold strings were written, with strings, in blocks of which T holds. -/
structure Over (T : Nat → Prop) (w w' : World) : Prop where
  os : w'.os = w.os
  tape : w'.tape = w.tape
  output : w'.output = w.output
  size : w'.heap.size = w.heap.size
  low : ∀ k, ¬ T k → w'.heap[k]? = w.heap[k]?
  cell : ∀ p v, w.cell? p = some v → (∀ s, v ≠ .string s) → w'.cell? p = some v
  str : ∀ p s, w.cell? p = some (.string s) → ∃ s', w'.cell? p = some (.string s')
  froz : ∀ p, w.frozen? p = false → w'.frozen? p = false
theorem Over.refl (T : Nat → Prop) (w : World) : Over T w w := ⟨rfl, rfl, rfl, rfl, fun _ _ => rfl, fun _ _ h _ => h, fun _ s h => ⟨s, h⟩, fun _ h => h⟩
theorem Over.keeps {T : Nat → Prop} {w w' : World} (h : Over T w w') : Keeps (fun k => ¬ T k) w w' := ⟨h.os, h.tape, h.output, by rw [h.size]; exact Nat.le_refl _, fun k _ hk => h.low k hk⟩
theorem Over.put {T : Nat → Prop} {w wr : World} (h : Over T w wr) {p : Addr} {s s' : ByteArray} (hp : T p.block) (hc : w.cell? p = some (.string s)) : Over T w (wr.setCell p (.string s')) := by
  obtain ⟨s0, hc0⟩ := h.str p s hc
  refine ⟨h.os, h.tape, h.output, by simp [World.setCell]; exact h.size, fun k hk => (Below.heap_setCell _ _ _ _ (fun e => hk (by first | (rw [e]; exact hp) | (rw [← e]; exact hp)))).trans (h.low k hk), fun q v hq hv => ?_, fun q s1 hq => ?_, fun q hq => by simpa using h.froz q hq⟩
  · by_cases e : p = q
    · subst e
      rw [hc] at hq
      injection hq with hq
      exact absurd hq.symm (hv s)
    · rw [World.cell?_setCell_other (h := e)]
      exact h.cell q v hq hv
  · by_cases e : p = q
    · subst e
      exact ⟨s', World.cell?_setCell_same _ _ _ hc0⟩
    · rw [World.cell?_setCell_other (h := e)]
      exact h.str q s1 hq
/-- A slice's cell is there still. -/
theorem Over.slice {T : Nat → Prop} {w w' : World} (h : Over T w w') {p : Addr} {a : Option Addr} {n c : Nat} (hc : w.cell? p = some (.slice a n c)) : w'.cell? p = some (.slice a n c) := h.cell p _ hc fun _ e => by cases e
end

section
/-! Layer 7's law: 'told' by contract. -/

open Go.RowKit Go.Sort

def ToldPost (w : World) (T : Nat → Prop) (b : Bool) (e : Ending) (w' : World) : Prop := e = .returned (.bool b) ∧ Keeps (fun k => k < w.heap.size ∧ ¬ T k) w w'
theorem boxes4 (w : World) (a b c d : Obj) : let W := ((((w.alloc a).alloc b).alloc c).alloc d)
    Below w.heap.size w W ∧ W.heap[w.heap.size]? = some a ∧ W.heap[w.heap.size + 1]? = some b ∧ W.heap[w.heap.size + 1 + 1]? = some c ∧ W.heap[w.heap.size + 1 + 1 + 1]? = some d ∧ W.heap.size = w.heap.size + 1 + 1 + 1 + 1 := by
  have n1 : (w.alloc a).heap.size = w.heap.size + 1 := by simp
  have n2 : ((w.alloc a).alloc b).heap.size = w.heap.size + 1 + 1 := by simp
  have n3 : (((w.alloc a).alloc b).alloc c).heap.size = w.heap.size + 1 + 1 + 1 := by simp
  have r0 := heap_alloc_new w a
  have r1 := heap_alloc_new (w.alloc a) b
  have r2 := heap_alloc_new ((w.alloc a).alloc b) c
  have r3 := heap_alloc_new (((w.alloc a).alloc b).alloc c) d
  rw [n1] at r1
  rw [n2] at r2
  rw [n3] at r3
  refine ⟨(((Below.refl _ w).alloc (Nat.le_refl _) _).alloc (by simp) _ |>.alloc (by first | (simp; done) | (simp; omega)) _).alloc (by first | (simp; done) | (simp; omega)) _, ?_, ?_, ?_, r3, by simp⟩
  · rw [Below.heap_alloc _ _ _ (by first | (simp; done) | (simp; omega)), Below.heap_alloc _ _ _ (by first | (simp; done) | (simp; omega)), Below.heap_alloc _ _ _ (by simp)]; exact r0
  · rw [Below.heap_alloc _ _ _ (by first | (simp; done) | (simp; omega)), Below.heap_alloc _ _ _ (by simp)]; exact r1
  · rw [Below.heap_alloc _ _ _ (by simp)]; exact r2

set_option maxRecDepth 100000 in
set_option maxHeartbeats 16000000 in
theorem told_any (B : Nat) (T : Nat → Prop) (hT : ∀ k, T k → B ≤ k) (G V o own : Objs) (gs gt ws wt os ot ns nt : Value) (ee ff : Int) (w : World) (hB : B ≤ w.heap.size) (hg : objP w (fun k => T k ∧ Soft w k) [gs, gt] G) (hw : objP w (· < w.heap.size) [ws, wt] V) (ho : objP w (· < B) [os, ot] o) (hn : objP w (· < B) [ns, nt] own) :
    Calls Try.prog 22 #[.agg #[gs, gt], .int .i64 ee, .agg #[ws, wt], .int .i64 ff, .agg #[os, ot], .agg #[ns, nt]] w (ToldPost w T ((decide (ee = ff) && decide (G = V)) && decide (o = own))) := by
  obtain ⟨_, _, hv, hgs, hgt⟩ := hg
  simp only [List.cons.injEq, and_true] at hv
  obtain ⟨rfl, rfl⟩ := hv
  obtain ⟨ga, gc, rfl, hga1, hga2⟩ := hgs.form
  obtain ⟨ta, tc, rfl, hta1, hta2⟩ := hgt.form
  obtain ⟨_, _, hv, h1, h2⟩ := hw
  simp only [List.cons.injEq, and_true] at hv
  obtain ⟨rfl, rfl⟩ := hv
  obtain ⟨wa1, wc1, rfl, _, _⟩ := h1.form
  obtain ⟨wa2, wc2, rfl, _, _⟩ := h2.form
  have hw : objP w (· < w.heap.size) _ V := ⟨_, _, rfl, h1, h2⟩
  obtain ⟨_, _, hv, h3, h4⟩ := ho
  simp only [List.cons.injEq, and_true] at hv
  obtain ⟨rfl, rfl⟩ := hv
  obtain ⟨oa1, oc1, rfl, _, _⟩ := h3.form
  obtain ⟨oa2, oc2, rfl, _, _⟩ := h4.form
  have ho : objP w (· < B) _ o := ⟨_, _, rfl, h3, h4⟩
  obtain ⟨_, _, hv, h5, h6⟩ := hn
  simp only [List.cons.injEq, and_true] at hv
  obtain ⟨rfl, rfl⟩ := hv
  obtain ⟨na1, nc1, rfl, _, _⟩ := h5.form
  obtain ⟨na2, nc2, rfl, _, _⟩ := h6.form
  have hn : objP w (· < B) _ own := ⟨_, _, rfl, h5, h6⟩
  have hgl : objP w (· < w.heap.size) _ G := obj_keep ⟨_, _, rfl, hgs, hgt⟩ (fun k hk => hk.2.lt) Keeps.refl
  clear h1 h2 h3 h4 h5 h6
  obtain ⟨gn, hgn⟩ : ∃ n, G.schemas.length = n := ⟨_, rfl⟩
  obtain ⟨gm, hgm⟩ : ∃ n, G.tables.length = n := ⟨_, rfl⟩
  rw [hgn] at hgs hgl hga1 ⊢
  rw [hgm] at hgt hgl hta1 ⊢
  unfold maxLen at hga2 hta2
  have HGN := Lib.hid hgn; have HGM := Lib.hid hgm
  have H4 := Lib.hid (boxes4 w (.cells #[.slice ga gn gc, .slice ta gm tc] 26) (.cells #[.slice wa1 V.schemas.length wc1, .slice wa2 V.tables.length wc2] 26) (.cells #[.slice oa1 o.schemas.length oc1, .slice oa2 o.tables.length oc2] 26) (.cells #[.slice na1 own.schemas.length nc1, .slice na2 own.tables.length nc2] 26))
  have HO := Lib.hid ho; have HOWN := Lib.hid hn; have HGL := Lib.hid hgl; have HW := Lib.hid hw
  have HGS0 := Lib.hid hgs; have HGT0 := Lib.hid hgt
  clear hgn hgm ho hn hgl hw hgs hgt
  by_cases he : ee = ff
  · subst he
    have HSAME := Lib.hid (fun w0 (h1 : objP w0 (· < w.heap.size) _ G) (h2 : objP w0 (· < w.heap.size) _ V) h3 => ref_sameobjs_any w.heap.size G V (.slice ga gn gc) (.slice ta gm tc) (.slice wa1 V.schemas.length wc1) (.slice wa2 V.tables.length wc2) w0 h1 h2 h3)
    by_cases hGV : G = V
    · have hd : decide (G = V) = true := by simp [hGV]
      rw [hd] at HSAME
      go_enter Try.func22, Try.ntmps22
      go_wp2_with fail
      generalize hW : World.alloc (World.alloc (World.alloc (World.alloc w _) _) _) _ = w0
      obtain ⟨hbW, q0, q1, q2, q3, qz⟩ : Below w.heap.size w w0 ∧ w0.heap[w.heap.size]? = some (.cells #[.slice ga gn gc, .slice ta gm tc] 26 (0, 0)) ∧ w0.heap[w.heap.size + 1]? = some (.cells #[.slice wa1 V.schemas.length wc1, .slice wa2 V.tables.length wc2] 26 (0, 0)) ∧ w0.heap[w.heap.size + 1 + 1]? = some (.cells #[.slice oa1 o.schemas.length oc1, .slice oa2 o.tables.length oc2] 26 (0, 0)) ∧ w0.heap[w.heap.size + 1 + 1 + 1]? = some (.cells #[.slice na1 own.schemas.length nc1, .slice na2 own.tables.length nc2] 26 (0, 0)) ∧ w0.heap.size = w.heap.size + 1 + 1 + 1 + 1 := by rw [← hW]; exact H4.out
      have HBW := Lib.hid hbW; have HR0 := Lib.hid q0; have HR2 := Lib.hid q2; have HR3 := Lib.hid q3
      clear hbW q0 q1 q2 q3 qz hW H4
      refine (HSAME.out w0 (obj_keep HGL.out (fun _ h => h) (Keeps.of_below HBW.out fun _ h => h)) (obj_keep HW.out (fun _ h => h) (Keeps.of_below HBW.out fun _ h => h)) HBW.out.size).mono ?_
      rintro e w1 ⟨rfl, g1⟩
      have HX1 := Lib.hid g1.below
      have HB1 := Lib.hid (HBW.out.trans (g1.below.mono HBW.out.size))
      clear g1
      have hkw : Keeps (fun k => T k ∧ Soft w k) w w1 := Keeps.of_below HB1.out fun k hk => hk.2.lt
      have HGS := Lib.hid (schs_keep HGS0.out (S' := fun k => T k ∧ Soft w1 k) (fun k hk => ⟨hk.1, hk.2.keep hkw hk⟩) hkw)
      have HGT := Lib.hid (tabs_keep HGT0.out (S' := fun k => T k ∧ Soft w1 k) (fun k hk => ⟨hk.1, hk.2.keep hkw hk⟩) hkw)
      have p0 := (HX1.out.block w.heap.size (lt_of_block HR0.out)).trans HR0.out
      have p2 := (HX1.out.block (w.heap.size + 1 + 1) (lt_of_block HR2.out)).trans HR2.out
      have p3 := (HX1.out.block (w.heap.size + 1 + 1 + 1) (lt_of_block HR3.out)).trans HR3.out
      have B0 := Lib.hid (box_at p0 0 rfl)
      have B1 := Lib.hid (box_at p0 1 rfl)
      have O0 := Lib.hid (box_at p2 0 rfl)
      have O1 := Lib.hid (box_at p2 1 rfl)
      have N0 := Lib.hid (box_at p3 0 rfl)
      have N1 := Lib.hid (box_at p3 1 rfl)
      clear hkw p0 p2 p3
      go_wp2_with fail
      go_loopw [14] (fun i wr => ∃ (k : Nat), k ≤ gm ∧ i = .int .i64 k ∧ Hid (Over T w1 wr)) (fun i _ => gm - (intOf i).toNat)
      case atStart => exact ⟨0, Nat.zero_le _, rfl, Lib.hid (Over.refl _ _)⟩
      case round =>
        obtain ⟨k, hk, rfl, HOV⟩ := hrel
        have hov := HOV.out
        have e1 := hov.slice B1.out
        by_cases hlt : k < gm
        · have lk : k < G.tables.length := by rw [HGM.out]; exact hlt
          obtain ⟨b, q, x, rfl, hbS, hx, hl⟩ := HGT.out.at lk
          generalize G.tables[k] = t at *
          obtain ⟨vc, vr, rfl, hvc, hvr⟩ := hx
          obtain ⟨ca, cc, rfl, hca1, hca2⟩ := hvc.form
          obtain ⟨ra, rc, rfl, hra1, hra2⟩ := hvr.form
          obtain ⟨cn, hcn⟩ : ∃ n, t.cols.length = n := ⟨_, rfl⟩
          obtain ⟨rn, hrn⟩ : ∃ n, t.rules.length = n := ⟨_, rfl⟩
          rw [hcn] at hvc hl hca1
          rw [hrn] at hvr hl hra1
          unfold maxLen at hca2 hra2
          have HCN := Lib.hid hcn; have HRN := Lib.hid hrn
          have HVC := Lib.hid hvc; have HVR := Lib.hid hvr
          have T1 := Lib.hid (show w1.cell? ⟨b, q + k * 5 + 1, none⟩ = some (.string t.name) from hl 1 _ rfl)
          have T3 := Lib.hid (show w1.cell? ⟨b, q + k * 5 + 3, none⟩ = some (.slice ca cn cc) from hl 3 _ rfl)
          have T4 := Lib.hid (show w1.cell? ⟨b, q + k * 5 + 4, none⟩ = some (.slice ra rn rc) from hl 4 _ rfl)
          have HBS := Lib.hid hbS
          have k0 : (0 : Int) ≤ (k : Int) := by omega
          have k1 : (k : Int) < (gm : Int) := by omega
          have HKN := Lib.hid (show k + 1 ≤ gm by omega)
          clear hcn hrn hvc hvr hl hbS hov
          go_wp2_with fail
          clear e1
          go_loopw [15] (fun i wr => ∃ (j : Nat), j ≤ cn ∧ i = .int .i64 j ∧ Hid (Over T w1 wr)) (fun i _ => cn - (intOf i).toNat)
          case atStart => exact ⟨0, Nat.zero_le _, rfl, HOV⟩
          case round =>
            clear HOV
            obtain ⟨j, hj, rfl, HOV⟩ := hrel
            have hov := HOV.out
            have e1 := hov.slice B1.out
            have e3 := hov.slice T3.out
            by_cases hlj : j < cn
            · have lj : j < t.cols.length := by rw [HCN.out]; exact hlj
              obtain ⟨cb, cq, cx, rfl, hcS, hcx, hcl⟩ := HVC.out.at lj
              generalize t.cols[j] = c at *
              rw [show cx = [.string c.name, .int .i64 c.kind, .bool c.null] from hcx] at hcl
              have s0 : w1.cell? ⟨cb, cq + j * 3, none⟩ = some (.string c.name) := hcl 0 _ rfl
              obtain ⟨s9, hs9⟩ := hov.str _ _ s0
              have z9 := hov.froz _ (hcS.2.frozen (cq + j * 3))
              have HN := Lib.hid (hov.put (s' := ⟨#[111, 118, 101, 114]⟩) hcS.1 s0)
              have j0 : (0 : Int) ≤ (j : Int) := by omega
              have j1 : (j : Int) < (cn : Int) := by omega
              have HJN := Lib.hid (show j + 1 ≤ cn by omega)
              clear hcl hcx s0 hov hcS
              go_wp2_with fail
              go_roundw
              case rel => exact ⟨j + 1, HJN.out, by go_num, HN⟩
              case measure => have := HJN.out; simp [intOf]; omega
            · obtain rfl : j = cn := by omega
              clear hov
              go_wp2_with fail
              clear e1 e3
              go_loopw [16] (fun i wr => ∃ (j : Nat), j ≤ rn ∧ i = .int .i64 j ∧ Hid (Over T w1 wr)) (fun i _ => rn - (intOf i).toNat)
              case atStart => exact ⟨0, Nat.zero_le _, rfl, HOV⟩
              case round =>
                clear HOV
                obtain ⟨i, hi, rfl, HOV⟩ := hrel
                have hov := HOV.out
                have e1 := hov.slice B1.out
                have e4 := hov.slice T4.out
                by_cases hli : i < rn
                · have li : i < t.rules.length := by rw [HRN.out]; exact hli
                  obtain ⟨rb, rq, rx, rfl, hrS, hrx, hrl⟩ := HVR.out.at li
                  generalize t.rules[i] = r at *
                  obtain ⟨nv, rfl, hnv⟩ := hrx
                  obtain ⟨na, nc, rfl, hna1, hna2⟩ := hnv.form
                  obtain ⟨nn, hnn⟩ : ∃ n, r.cols.length = n := ⟨_, rfl⟩
                  rw [hnn] at hnv hrl hna1
                  unfold maxLen at hna2
                  have HNN := Lib.hid hnn; have HNV := Lib.hid hnv; have HRS := Lib.hid hrS
                  have R0 := Lib.hid (show w1.cell? ⟨rb, rq + i * 8, none⟩ = some (.string r.name) from hrl 0 _ rfl)
                  have R2 := Lib.hid (show w1.cell? ⟨rb, rq + i * 8 + 2, none⟩ = some (.slice na nn nc) from hrl 2 _ rfl)
                  have i0 : (0 : Int) ≤ (i : Int) := by omega
                  have i1 : (i : Int) < (rn : Int) := by omega
                  have HIN := Lib.hid (show i + 1 ≤ rn by omega)
                  clear hnn hnv hrl hrS hov
                  go_wp2_with fail
                  clear e1 e4
                  go_loopw [17] (fun m wr => ∃ (d : Nat), d ≤ nn ∧ m = .int .i64 d ∧ Hid (Over T w1 wr)) (fun m _ => nn - (intOf m).toNat)
                  case atStart => exact ⟨0, Nat.zero_le _, rfl, HOV⟩
                  case round =>
                    clear HOV
                    obtain ⟨d, hd, rfl, HOV⟩ := hrel
                    have hov := HOV.out
                    have e1 := hov.slice B1.out
                    have e4 := hov.slice T4.out
                    have r2 := hov.slice R2.out
                    by_cases hld : d < nn
                    · have ld : d < r.cols.length := by rw [HNN.out]; exact hld
                      obtain ⟨sb, sq, sx, rfl, hsS, hsx, hsl⟩ := HNV.out.at ld
                      generalize r.cols[d] = u at *
                      rw [show sx = [.string u] from hsx] at hsl
                      have s0 : w1.cell? ⟨sb, sq + d, none⟩ = some (.string u) := by have h := hsl 0 _ rfl; simpa using h
                      obtain ⟨s9, hs9⟩ := hov.str _ _ s0
                      have z9 := hov.froz _ (hsS.2.frozen (sq + d))
                      have HN := Lib.hid (hov.put (s' := ⟨#[111, 118, 101, 114]⟩) hsS.1 s0)
                      have d0 : (0 : Int) ≤ (d : Int) := by omega
                      have d1 : (d : Int) < (nn : Int) := by omega
                      have HDN := Lib.hid (show d + 1 ≤ nn by omega)
                      clear hsl hsx s0 hov hsS
                      go_wp2_with fail
                      go_roundw
                      case rel => exact ⟨d + 1, HDN.out, by go_num, HN⟩
                      case measure => have := HDN.out; simp [intOf]; omega
                    · obtain rfl : d = nn := by omega
                      have hrS := HRS.out
                      have s0 := R0.out
                      obtain ⟨s9, hs9⟩ := hov.str _ _ s0
                      have z9 := hov.froz _ (hrS.2.frozen (rq + i * 8))
                      have HN := Lib.hid (hov.put (s' := ⟨#[111, 118, 101, 114]⟩) hrS.1 s0)
                      clear hrS s0 hov
                      go_wp2_with fail
                      go_roundw
                      case rel => exact ⟨i + 1, HIN.out, by go_num, HN⟩
                      case measure => have := HIN.out; simp [intOf]; omega
                · obtain rfl : i = rn := by omega
                  have hbS := HBS.out
                  have s0 := T1.out
                  obtain ⟨s9, hs9⟩ := hov.str _ _ s0
                  have z9 := hov.froz _ (hbS.2.frozen (q + k * 5 + 1))
                  have HN := Lib.hid (hov.put (s' := ⟨#[111, 118, 101, 114]⟩) hbS.1 s0)
                  clear hbS s0 hov
                  go_wp2_with fail
                  go_roundw
                  case rel => exact ⟨k + 1, HKN.out, by go_num, HN⟩
                  case measure => have := HKN.out; simp [intOf]; omega
        · obtain rfl : k = gm := by omega
          clear hov
          go_wp2_with fail
          clear e1
          go_loopw [18] (fun i wr => ∃ (j : Nat), j ≤ gn ∧ i = .int .i64 j ∧ Hid (Over T w1 wr)) (fun i _ => gn - (intOf i).toNat)
          case atStart => exact ⟨0, Nat.zero_le _, rfl, HOV⟩
          case round =>
            clear HOV
            obtain ⟨j, hj, rfl, HOV⟩ := hrel
            have hov := HOV.out
            have e0 := hov.slice B0.out
            by_cases hlj : j < gn
            · have lj : j < G.schemas.length := by rw [HGN.out]; exact hlj
              obtain ⟨cb, cq, cx, rfl, hcS, hcx, hcl⟩ := HGS.out.at lj
              generalize G.schemas[j] = c at *
              rw [show cx = [.string c.name, .string c.owner] from hcx] at hcl
              have s0 : w1.cell? ⟨cb, cq + j * 2, none⟩ = some (.string c.name) := hcl 0 _ rfl
              obtain ⟨s9, hs9⟩ := hov.str _ _ s0
              have z9 := hov.froz _ (hcS.2.frozen (cq + j * 2))
              have HN := Lib.hid (hov.put (s' := ⟨#[111, 118, 101, 114]⟩) hcS.1 s0)
              have j0 : (0 : Int) ≤ (j : Int) := by omega
              have j1 : (j : Int) < (gn : Int) := by omega
              have HJN := Lib.hid (show j + 1 ≤ gn by omega)
              clear hcl hcx s0 hov hcS
              go_wp2_with fail
              go_roundw
              case rel => exact ⟨j + 1, HJN.out, by go_num, HN⟩
              case measure => have := HJN.out; simp [intOf]; omega
            · obtain rfl : j = gn := by omega
              have hbl := hov.keeps
              have c0 := hov.slice O0.out
              have c1 := hov.slice O1.out
              have c2 := hov.slice N0.out
              have c3 := hov.slice N1.out
              clear hov
              have HFB := Lib.hid ((Keeps.of_below HB1.out (S := fun k => k < w.heap.size ∧ ¬ T k) fun _ h => h.1).trans (hbl.mono fun _ h => h.2))
              have hwk : Keeps (· < B) w wr := HFB.out.mono fun k hk => ⟨Nat.lt_of_lt_of_le hk hB, fun h => absurd (hT k h) (Nat.not_le_of_lt hk)⟩
              have HSM := Lib.hid (ref_sameobjs_any B o own _ _ _ _ wr (obj_keep HO.out (fun _ h => h) hwk) (obj_keep HOWN.out (fun _ h => h) hwk) (Nat.le_trans hB hwk.size))
              clear hbl hwk
              go_wp2_with fail
              refine HSM.out.mono ?_
              rintro e w9 ⟨rfl, g9⟩
              have HF9 := Lib.hid (HFB.out.trans (g9.keeps fun k hk => Nat.lt_of_lt_of_le hk.1 HFB.out.size))
              clear g9
              go_wp2_with fail
              go_ret
              exact ⟨by simp [hGV], HF9.out⟩
    · have hd : decide (G = V) = false := by simp [hGV]
      rw [hd] at HSAME
      go_enter Try.func22, Try.ntmps22
      go_wp2_with fail
      generalize hW : World.alloc (World.alloc (World.alloc (World.alloc w _) _) _) _ = w0
      obtain ⟨hbW, q0, q1, q2, q3, qz⟩ : Below w.heap.size w w0 ∧ w0.heap[w.heap.size]? = some (.cells #[.slice ga gn gc, .slice ta gm tc] 26 (0, 0)) ∧ w0.heap[w.heap.size + 1]? = some (.cells #[.slice wa1 V.schemas.length wc1, .slice wa2 V.tables.length wc2] 26 (0, 0)) ∧ w0.heap[w.heap.size + 1 + 1]? = some (.cells #[.slice oa1 o.schemas.length oc1, .slice oa2 o.tables.length oc2] 26 (0, 0)) ∧ w0.heap[w.heap.size + 1 + 1 + 1]? = some (.cells #[.slice na1 own.schemas.length nc1, .slice na2 own.tables.length nc2] 26 (0, 0)) ∧ w0.heap.size = w.heap.size + 1 + 1 + 1 + 1 := by rw [← hW]; exact H4.out
      have HBW := Lib.hid hbW; have HR0 := Lib.hid q0; have HR2 := Lib.hid q2; have HR3 := Lib.hid q3
      clear hbW q0 q1 q2 q3 qz hW H4
      refine (HSAME.out w0 (obj_keep HGL.out (fun _ h => h) (Keeps.of_below HBW.out fun _ h => h)) (obj_keep HW.out (fun _ h => h) (Keeps.of_below HBW.out fun _ h => h)) HBW.out.size).mono ?_
      rintro e w1 ⟨rfl, g1⟩
      have HX1 := Lib.hid g1.below
      have HB1 := Lib.hid (HBW.out.trans (g1.below.mono HBW.out.size))
      clear g1
      have hkw : Keeps (fun k => T k ∧ Soft w k) w w1 := Keeps.of_below HB1.out fun k hk => hk.2.lt
      have HGS := Lib.hid (schs_keep HGS0.out (S' := fun k => T k ∧ Soft w1 k) (fun k hk => ⟨hk.1, hk.2.keep hkw hk⟩) hkw)
      have HGT := Lib.hid (tabs_keep HGT0.out (S' := fun k => T k ∧ Soft w1 k) (fun k hk => ⟨hk.1, hk.2.keep hkw hk⟩) hkw)
      have p0 := (HX1.out.block w.heap.size (lt_of_block HR0.out)).trans HR0.out
      have p2 := (HX1.out.block (w.heap.size + 1 + 1) (lt_of_block HR2.out)).trans HR2.out
      have p3 := (HX1.out.block (w.heap.size + 1 + 1 + 1) (lt_of_block HR3.out)).trans HR3.out
      have B0 := Lib.hid (box_at p0 0 rfl)
      have B1 := Lib.hid (box_at p0 1 rfl)
      have O0 := Lib.hid (box_at p2 0 rfl)
      have O1 := Lib.hid (box_at p2 1 rfl)
      have N0 := Lib.hid (box_at p3 0 rfl)
      have N1 := Lib.hid (box_at p3 1 rfl)
      clear hkw p0 p2 p3
      go_wp2_with fail
      go_loopw [14] (fun i wr => ∃ (k : Nat), k ≤ gm ∧ i = .int .i64 k ∧ Hid (Over T w1 wr)) (fun i _ => gm - (intOf i).toNat)
      case atStart => exact ⟨0, Nat.zero_le _, rfl, Lib.hid (Over.refl _ _)⟩
      case round =>
        obtain ⟨k, hk, rfl, HOV⟩ := hrel
        have hov := HOV.out
        have e1 := hov.slice B1.out
        by_cases hlt : k < gm
        · have lk : k < G.tables.length := by rw [HGM.out]; exact hlt
          obtain ⟨b, q, x, rfl, hbS, hx, hl⟩ := HGT.out.at lk
          generalize G.tables[k] = t at *
          obtain ⟨vc, vr, rfl, hvc, hvr⟩ := hx
          obtain ⟨ca, cc, rfl, hca1, hca2⟩ := hvc.form
          obtain ⟨ra, rc, rfl, hra1, hra2⟩ := hvr.form
          obtain ⟨cn, hcn⟩ : ∃ n, t.cols.length = n := ⟨_, rfl⟩
          obtain ⟨rn, hrn⟩ : ∃ n, t.rules.length = n := ⟨_, rfl⟩
          rw [hcn] at hvc hl hca1
          rw [hrn] at hvr hl hra1
          unfold maxLen at hca2 hra2
          have HCN := Lib.hid hcn; have HRN := Lib.hid hrn
          have HVC := Lib.hid hvc; have HVR := Lib.hid hvr
          have T1 := Lib.hid (show w1.cell? ⟨b, q + k * 5 + 1, none⟩ = some (.string t.name) from hl 1 _ rfl)
          have T3 := Lib.hid (show w1.cell? ⟨b, q + k * 5 + 3, none⟩ = some (.slice ca cn cc) from hl 3 _ rfl)
          have T4 := Lib.hid (show w1.cell? ⟨b, q + k * 5 + 4, none⟩ = some (.slice ra rn rc) from hl 4 _ rfl)
          have HBS := Lib.hid hbS
          have k0 : (0 : Int) ≤ (k : Int) := by omega
          have k1 : (k : Int) < (gm : Int) := by omega
          have HKN := Lib.hid (show k + 1 ≤ gm by omega)
          clear hcn hrn hvc hvr hl hbS hov
          go_wp2_with fail
          clear e1
          go_loopw [15] (fun i wr => ∃ (j : Nat), j ≤ cn ∧ i = .int .i64 j ∧ Hid (Over T w1 wr)) (fun i _ => cn - (intOf i).toNat)
          case atStart => exact ⟨0, Nat.zero_le _, rfl, HOV⟩
          case round =>
            clear HOV
            obtain ⟨j, hj, rfl, HOV⟩ := hrel
            have hov := HOV.out
            have e1 := hov.slice B1.out
            have e3 := hov.slice T3.out
            by_cases hlj : j < cn
            · have lj : j < t.cols.length := by rw [HCN.out]; exact hlj
              obtain ⟨cb, cq, cx, rfl, hcS, hcx, hcl⟩ := HVC.out.at lj
              generalize t.cols[j] = c at *
              rw [show cx = [.string c.name, .int .i64 c.kind, .bool c.null] from hcx] at hcl
              have s0 : w1.cell? ⟨cb, cq + j * 3, none⟩ = some (.string c.name) := hcl 0 _ rfl
              obtain ⟨s9, hs9⟩ := hov.str _ _ s0
              have z9 := hov.froz _ (hcS.2.frozen (cq + j * 3))
              have HN := Lib.hid (hov.put (s' := ⟨#[111, 118, 101, 114]⟩) hcS.1 s0)
              have j0 : (0 : Int) ≤ (j : Int) := by omega
              have j1 : (j : Int) < (cn : Int) := by omega
              have HJN := Lib.hid (show j + 1 ≤ cn by omega)
              clear hcl hcx s0 hov hcS
              go_wp2_with fail
              go_roundw
              case rel => exact ⟨j + 1, HJN.out, by go_num, HN⟩
              case measure => have := HJN.out; simp [intOf]; omega
            · obtain rfl : j = cn := by omega
              clear hov
              go_wp2_with fail
              clear e1 e3
              go_loopw [16] (fun i wr => ∃ (j : Nat), j ≤ rn ∧ i = .int .i64 j ∧ Hid (Over T w1 wr)) (fun i _ => rn - (intOf i).toNat)
              case atStart => exact ⟨0, Nat.zero_le _, rfl, HOV⟩
              case round =>
                clear HOV
                obtain ⟨i, hi, rfl, HOV⟩ := hrel
                have hov := HOV.out
                have e1 := hov.slice B1.out
                have e4 := hov.slice T4.out
                by_cases hli : i < rn
                · have li : i < t.rules.length := by rw [HRN.out]; exact hli
                  obtain ⟨rb, rq, rx, rfl, hrS, hrx, hrl⟩ := HVR.out.at li
                  generalize t.rules[i] = r at *
                  obtain ⟨nv, rfl, hnv⟩ := hrx
                  obtain ⟨na, nc, rfl, hna1, hna2⟩ := hnv.form
                  obtain ⟨nn, hnn⟩ : ∃ n, r.cols.length = n := ⟨_, rfl⟩
                  rw [hnn] at hnv hrl hna1
                  unfold maxLen at hna2
                  have HNN := Lib.hid hnn; have HNV := Lib.hid hnv; have HRS := Lib.hid hrS
                  have R0 := Lib.hid (show w1.cell? ⟨rb, rq + i * 8, none⟩ = some (.string r.name) from hrl 0 _ rfl)
                  have R2 := Lib.hid (show w1.cell? ⟨rb, rq + i * 8 + 2, none⟩ = some (.slice na nn nc) from hrl 2 _ rfl)
                  have i0 : (0 : Int) ≤ (i : Int) := by omega
                  have i1 : (i : Int) < (rn : Int) := by omega
                  have HIN := Lib.hid (show i + 1 ≤ rn by omega)
                  clear hnn hnv hrl hrS hov
                  go_wp2_with fail
                  clear e1 e4
                  go_loopw [17] (fun m wr => ∃ (d : Nat), d ≤ nn ∧ m = .int .i64 d ∧ Hid (Over T w1 wr)) (fun m _ => nn - (intOf m).toNat)
                  case atStart => exact ⟨0, Nat.zero_le _, rfl, HOV⟩
                  case round =>
                    clear HOV
                    obtain ⟨d, hd, rfl, HOV⟩ := hrel
                    have hov := HOV.out
                    have e1 := hov.slice B1.out
                    have e4 := hov.slice T4.out
                    have r2 := hov.slice R2.out
                    by_cases hld : d < nn
                    · have ld : d < r.cols.length := by rw [HNN.out]; exact hld
                      obtain ⟨sb, sq, sx, rfl, hsS, hsx, hsl⟩ := HNV.out.at ld
                      generalize r.cols[d] = u at *
                      rw [show sx = [.string u] from hsx] at hsl
                      have s0 : w1.cell? ⟨sb, sq + d, none⟩ = some (.string u) := by have h := hsl 0 _ rfl; simpa using h
                      obtain ⟨s9, hs9⟩ := hov.str _ _ s0
                      have z9 := hov.froz _ (hsS.2.frozen (sq + d))
                      have HN := Lib.hid (hov.put (s' := ⟨#[111, 118, 101, 114]⟩) hsS.1 s0)
                      have d0 : (0 : Int) ≤ (d : Int) := by omega
                      have d1 : (d : Int) < (nn : Int) := by omega
                      have HDN := Lib.hid (show d + 1 ≤ nn by omega)
                      clear hsl hsx s0 hov hsS
                      go_wp2_with fail
                      go_roundw
                      case rel => exact ⟨d + 1, HDN.out, by go_num, HN⟩
                      case measure => have := HDN.out; simp [intOf]; omega
                    · obtain rfl : d = nn := by omega
                      have hrS := HRS.out
                      have s0 := R0.out
                      obtain ⟨s9, hs9⟩ := hov.str _ _ s0
                      have z9 := hov.froz _ (hrS.2.frozen (rq + i * 8))
                      have HN := Lib.hid (hov.put (s' := ⟨#[111, 118, 101, 114]⟩) hrS.1 s0)
                      clear hrS s0 hov
                      go_wp2_with fail
                      go_roundw
                      case rel => exact ⟨i + 1, HIN.out, by go_num, HN⟩
                      case measure => have := HIN.out; simp [intOf]; omega
                · obtain rfl : i = rn := by omega
                  have hbS := HBS.out
                  have s0 := T1.out
                  obtain ⟨s9, hs9⟩ := hov.str _ _ s0
                  have z9 := hov.froz _ (hbS.2.frozen (q + k * 5 + 1))
                  have HN := Lib.hid (hov.put (s' := ⟨#[111, 118, 101, 114]⟩) hbS.1 s0)
                  clear hbS s0 hov
                  go_wp2_with fail
                  go_roundw
                  case rel => exact ⟨k + 1, HKN.out, by go_num, HN⟩
                  case measure => have := HKN.out; simp [intOf]; omega
        · obtain rfl : k = gm := by omega
          clear hov
          go_wp2_with fail
          clear e1
          go_loopw [18] (fun i wr => ∃ (j : Nat), j ≤ gn ∧ i = .int .i64 j ∧ Hid (Over T w1 wr)) (fun i _ => gn - (intOf i).toNat)
          case atStart => exact ⟨0, Nat.zero_le _, rfl, HOV⟩
          case round =>
            clear HOV
            obtain ⟨j, hj, rfl, HOV⟩ := hrel
            have hov := HOV.out
            have e0 := hov.slice B0.out
            by_cases hlj : j < gn
            · have lj : j < G.schemas.length := by rw [HGN.out]; exact hlj
              obtain ⟨cb, cq, cx, rfl, hcS, hcx, hcl⟩ := HGS.out.at lj
              generalize G.schemas[j] = c at *
              rw [show cx = [.string c.name, .string c.owner] from hcx] at hcl
              have s0 : w1.cell? ⟨cb, cq + j * 2, none⟩ = some (.string c.name) := hcl 0 _ rfl
              obtain ⟨s9, hs9⟩ := hov.str _ _ s0
              have z9 := hov.froz _ (hcS.2.frozen (cq + j * 2))
              have HN := Lib.hid (hov.put (s' := ⟨#[111, 118, 101, 114]⟩) hcS.1 s0)
              have j0 : (0 : Int) ≤ (j : Int) := by omega
              have j1 : (j : Int) < (gn : Int) := by omega
              have HJN := Lib.hid (show j + 1 ≤ gn by omega)
              clear hcl hcx s0 hov hcS
              go_wp2_with fail
              go_roundw
              case rel => exact ⟨j + 1, HJN.out, by go_num, HN⟩
              case measure => have := HJN.out; simp [intOf]; omega
            · obtain rfl : j = gn := by omega
              have hbl := hov.keeps
              have c0 := hov.slice O0.out
              have c1 := hov.slice O1.out
              have c2 := hov.slice N0.out
              have c3 := hov.slice N1.out
              clear hov
              have HFB := Lib.hid ((Keeps.of_below HB1.out (S := fun k => k < w.heap.size ∧ ¬ T k) fun _ h => h.1).trans (hbl.mono fun _ h => h.2))
              clear hbl c0 c1 c2 c3
              go_wp2_with fail
              go_ret
              exact ⟨by simp [hGV], HFB.out⟩
  · have heb : (ee == ff) = false := by simpa using he
    go_enter Try.func22, Try.ntmps22
    go_wp2_with fail
    generalize hW : World.alloc (World.alloc (World.alloc (World.alloc w _) _) _) _ = w1
    obtain ⟨hbW, q0, q1, q2, q3, qz⟩ : Below w.heap.size w w1 ∧ w1.heap[w.heap.size]? = some (.cells #[.slice ga gn gc, .slice ta gm tc] 26 (0, 0)) ∧ w1.heap[w.heap.size + 1]? = some (.cells #[.slice wa1 V.schemas.length wc1, .slice wa2 V.tables.length wc2] 26 (0, 0)) ∧ w1.heap[w.heap.size + 1 + 1]? = some (.cells #[.slice oa1 o.schemas.length oc1, .slice oa2 o.tables.length oc2] 26 (0, 0)) ∧ w1.heap[w.heap.size + 1 + 1 + 1]? = some (.cells #[.slice na1 own.schemas.length nc1, .slice na2 own.tables.length nc2] 26 (0, 0)) ∧ w1.heap.size = w.heap.size + 1 + 1 + 1 + 1 := by rw [← hW]; exact H4.out
    have HBW := Lib.hid hbW; have HR0 := Lib.hid q0; have HR2 := Lib.hid q2; have HR3 := Lib.hid q3
    clear hbW q0 q1 q2 q3 qz hW H4
    have HB1 := HBW
    have HX1 := Lib.hid (Below.refl w1.heap.size w1)
    have hkw : Keeps (fun k => T k ∧ Soft w k) w w1 := Keeps.of_below HB1.out fun k hk => hk.2.lt
    have HGS := Lib.hid (schs_keep HGS0.out (S' := fun k => T k ∧ Soft w1 k) (fun k hk => ⟨hk.1, hk.2.keep hkw hk⟩) hkw)
    have HGT := Lib.hid (tabs_keep HGT0.out (S' := fun k => T k ∧ Soft w1 k) (fun k hk => ⟨hk.1, hk.2.keep hkw hk⟩) hkw)
    have p0 := (HX1.out.block w.heap.size (lt_of_block HR0.out)).trans HR0.out
    have p2 := (HX1.out.block (w.heap.size + 1 + 1) (lt_of_block HR2.out)).trans HR2.out
    have p3 := (HX1.out.block (w.heap.size + 1 + 1 + 1) (lt_of_block HR3.out)).trans HR3.out
    have B0 := Lib.hid (box_at p0 0 rfl)
    have B1 := Lib.hid (box_at p0 1 rfl)
    have O0 := Lib.hid (box_at p2 0 rfl)
    have O1 := Lib.hid (box_at p2 1 rfl)
    have N0 := Lib.hid (box_at p3 0 rfl)
    have N1 := Lib.hid (box_at p3 1 rfl)
    clear hkw p0 p2 p3
    go_loopw [14] (fun i wr => ∃ (k : Nat), k ≤ gm ∧ i = .int .i64 k ∧ Hid (Over T w1 wr)) (fun i _ => gm - (intOf i).toNat)
    case atStart => exact ⟨0, Nat.zero_le _, rfl, Lib.hid (Over.refl _ _)⟩
    case round =>
      obtain ⟨k, hk, rfl, HOV⟩ := hrel
      have hov := HOV.out
      have e1 := hov.slice B1.out
      by_cases hlt : k < gm
      · have lk : k < G.tables.length := by rw [HGM.out]; exact hlt
        obtain ⟨b, q, x, rfl, hbS, hx, hl⟩ := HGT.out.at lk
        generalize G.tables[k] = t at *
        obtain ⟨vc, vr, rfl, hvc, hvr⟩ := hx
        obtain ⟨ca, cc, rfl, hca1, hca2⟩ := hvc.form
        obtain ⟨ra, rc, rfl, hra1, hra2⟩ := hvr.form
        obtain ⟨cn, hcn⟩ : ∃ n, t.cols.length = n := ⟨_, rfl⟩
        obtain ⟨rn, hrn⟩ : ∃ n, t.rules.length = n := ⟨_, rfl⟩
        rw [hcn] at hvc hl hca1
        rw [hrn] at hvr hl hra1
        unfold maxLen at hca2 hra2
        have HCN := Lib.hid hcn; have HRN := Lib.hid hrn
        have HVC := Lib.hid hvc; have HVR := Lib.hid hvr
        have T1 := Lib.hid (show w1.cell? ⟨b, q + k * 5 + 1, none⟩ = some (.string t.name) from hl 1 _ rfl)
        have T3 := Lib.hid (show w1.cell? ⟨b, q + k * 5 + 3, none⟩ = some (.slice ca cn cc) from hl 3 _ rfl)
        have T4 := Lib.hid (show w1.cell? ⟨b, q + k * 5 + 4, none⟩ = some (.slice ra rn rc) from hl 4 _ rfl)
        have HBS := Lib.hid hbS
        have k0 : (0 : Int) ≤ (k : Int) := by omega
        have k1 : (k : Int) < (gm : Int) := by omega
        have HKN := Lib.hid (show k + 1 ≤ gm by omega)
        clear hcn hrn hvc hvr hl hbS hov
        go_wp2_with fail
        clear e1
        go_loopw [15] (fun i wr => ∃ (j : Nat), j ≤ cn ∧ i = .int .i64 j ∧ Hid (Over T w1 wr)) (fun i _ => cn - (intOf i).toNat)
        case atStart => exact ⟨0, Nat.zero_le _, rfl, HOV⟩
        case round =>
          clear HOV
          obtain ⟨j, hj, rfl, HOV⟩ := hrel
          have hov := HOV.out
          have e1 := hov.slice B1.out
          have e3 := hov.slice T3.out
          by_cases hlj : j < cn
          · have lj : j < t.cols.length := by rw [HCN.out]; exact hlj
            obtain ⟨cb, cq, cx, rfl, hcS, hcx, hcl⟩ := HVC.out.at lj
            generalize t.cols[j] = c at *
            rw [show cx = [.string c.name, .int .i64 c.kind, .bool c.null] from hcx] at hcl
            have s0 : w1.cell? ⟨cb, cq + j * 3, none⟩ = some (.string c.name) := hcl 0 _ rfl
            obtain ⟨s9, hs9⟩ := hov.str _ _ s0
            have z9 := hov.froz _ (hcS.2.frozen (cq + j * 3))
            have HN := Lib.hid (hov.put (s' := ⟨#[111, 118, 101, 114]⟩) hcS.1 s0)
            have j0 : (0 : Int) ≤ (j : Int) := by omega
            have j1 : (j : Int) < (cn : Int) := by omega
            have HJN := Lib.hid (show j + 1 ≤ cn by omega)
            clear hcl hcx s0 hov hcS
            go_wp2_with fail
            go_roundw
            case rel => exact ⟨j + 1, HJN.out, by go_num, HN⟩
            case measure => have := HJN.out; simp [intOf]; omega
          · obtain rfl : j = cn := by omega
            clear hov
            go_wp2_with fail
            clear e1 e3
            go_loopw [16] (fun i wr => ∃ (j : Nat), j ≤ rn ∧ i = .int .i64 j ∧ Hid (Over T w1 wr)) (fun i _ => rn - (intOf i).toNat)
            case atStart => exact ⟨0, Nat.zero_le _, rfl, HOV⟩
            case round =>
              clear HOV
              obtain ⟨i, hi, rfl, HOV⟩ := hrel
              have hov := HOV.out
              have e1 := hov.slice B1.out
              have e4 := hov.slice T4.out
              by_cases hli : i < rn
              · have li : i < t.rules.length := by rw [HRN.out]; exact hli
                obtain ⟨rb, rq, rx, rfl, hrS, hrx, hrl⟩ := HVR.out.at li
                generalize t.rules[i] = r at *
                obtain ⟨nv, rfl, hnv⟩ := hrx
                obtain ⟨na, nc, rfl, hna1, hna2⟩ := hnv.form
                obtain ⟨nn, hnn⟩ : ∃ n, r.cols.length = n := ⟨_, rfl⟩
                rw [hnn] at hnv hrl hna1
                unfold maxLen at hna2
                have HNN := Lib.hid hnn; have HNV := Lib.hid hnv; have HRS := Lib.hid hrS
                have R0 := Lib.hid (show w1.cell? ⟨rb, rq + i * 8, none⟩ = some (.string r.name) from hrl 0 _ rfl)
                have R2 := Lib.hid (show w1.cell? ⟨rb, rq + i * 8 + 2, none⟩ = some (.slice na nn nc) from hrl 2 _ rfl)
                have i0 : (0 : Int) ≤ (i : Int) := by omega
                have i1 : (i : Int) < (rn : Int) := by omega
                have HIN := Lib.hid (show i + 1 ≤ rn by omega)
                clear hnn hnv hrl hrS hov
                go_wp2_with fail
                clear e1 e4
                go_loopw [17] (fun m wr => ∃ (d : Nat), d ≤ nn ∧ m = .int .i64 d ∧ Hid (Over T w1 wr)) (fun m _ => nn - (intOf m).toNat)
                case atStart => exact ⟨0, Nat.zero_le _, rfl, HOV⟩
                case round =>
                  clear HOV
                  obtain ⟨d, hd, rfl, HOV⟩ := hrel
                  have hov := HOV.out
                  have e1 := hov.slice B1.out
                  have e4 := hov.slice T4.out
                  have r2 := hov.slice R2.out
                  by_cases hld : d < nn
                  · have ld : d < r.cols.length := by rw [HNN.out]; exact hld
                    obtain ⟨sb, sq, sx, rfl, hsS, hsx, hsl⟩ := HNV.out.at ld
                    generalize r.cols[d] = u at *
                    rw [show sx = [.string u] from hsx] at hsl
                    have s0 : w1.cell? ⟨sb, sq + d, none⟩ = some (.string u) := by have h := hsl 0 _ rfl; simpa using h
                    obtain ⟨s9, hs9⟩ := hov.str _ _ s0
                    have z9 := hov.froz _ (hsS.2.frozen (sq + d))
                    have HN := Lib.hid (hov.put (s' := ⟨#[111, 118, 101, 114]⟩) hsS.1 s0)
                    have d0 : (0 : Int) ≤ (d : Int) := by omega
                    have d1 : (d : Int) < (nn : Int) := by omega
                    have HDN := Lib.hid (show d + 1 ≤ nn by omega)
                    clear hsl hsx s0 hov hsS
                    go_wp2_with fail
                    go_roundw
                    case rel => exact ⟨d + 1, HDN.out, by go_num, HN⟩
                    case measure => have := HDN.out; simp [intOf]; omega
                  · obtain rfl : d = nn := by omega
                    have hrS := HRS.out
                    have s0 := R0.out
                    obtain ⟨s9, hs9⟩ := hov.str _ _ s0
                    have z9 := hov.froz _ (hrS.2.frozen (rq + i * 8))
                    have HN := Lib.hid (hov.put (s' := ⟨#[111, 118, 101, 114]⟩) hrS.1 s0)
                    clear hrS s0 hov
                    go_wp2_with fail
                    go_roundw
                    case rel => exact ⟨i + 1, HIN.out, by go_num, HN⟩
                    case measure => have := HIN.out; simp [intOf]; omega
              · obtain rfl : i = rn := by omega
                have hbS := HBS.out
                have s0 := T1.out
                obtain ⟨s9, hs9⟩ := hov.str _ _ s0
                have z9 := hov.froz _ (hbS.2.frozen (q + k * 5 + 1))
                have HN := Lib.hid (hov.put (s' := ⟨#[111, 118, 101, 114]⟩) hbS.1 s0)
                clear hbS s0 hov
                go_wp2_with fail
                go_roundw
                case rel => exact ⟨k + 1, HKN.out, by go_num, HN⟩
                case measure => have := HKN.out; simp [intOf]; omega
      · obtain rfl : k = gm := by omega
        clear hov
        go_wp2_with fail
        clear e1
        go_loopw [18] (fun i wr => ∃ (j : Nat), j ≤ gn ∧ i = .int .i64 j ∧ Hid (Over T w1 wr)) (fun i _ => gn - (intOf i).toNat)
        case atStart => exact ⟨0, Nat.zero_le _, rfl, HOV⟩
        case round =>
          clear HOV
          obtain ⟨j, hj, rfl, HOV⟩ := hrel
          have hov := HOV.out
          have e0 := hov.slice B0.out
          by_cases hlj : j < gn
          · have lj : j < G.schemas.length := by rw [HGN.out]; exact hlj
            obtain ⟨cb, cq, cx, rfl, hcS, hcx, hcl⟩ := HGS.out.at lj
            generalize G.schemas[j] = c at *
            rw [show cx = [.string c.name, .string c.owner] from hcx] at hcl
            have s0 : w1.cell? ⟨cb, cq + j * 2, none⟩ = some (.string c.name) := hcl 0 _ rfl
            obtain ⟨s9, hs9⟩ := hov.str _ _ s0
            have z9 := hov.froz _ (hcS.2.frozen (cq + j * 2))
            have HN := Lib.hid (hov.put (s' := ⟨#[111, 118, 101, 114]⟩) hcS.1 s0)
            have j0 : (0 : Int) ≤ (j : Int) := by omega
            have j1 : (j : Int) < (gn : Int) := by omega
            have HJN := Lib.hid (show j + 1 ≤ gn by omega)
            clear hcl hcx s0 hov hcS
            go_wp2_with fail
            go_roundw
            case rel => exact ⟨j + 1, HJN.out, by go_num, HN⟩
            case measure => have := HJN.out; simp [intOf]; omega
          · obtain rfl : j = gn := by omega
            have hbl := hov.keeps
            have c0 := hov.slice O0.out
            have c1 := hov.slice O1.out
            have c2 := hov.slice N0.out
            have c3 := hov.slice N1.out
            clear hov
            have HFB := Lib.hid ((Keeps.of_below HB1.out (S := fun k => k < w.heap.size ∧ ¬ T k) fun _ h => h.1).trans (hbl.mono fun _ h => h.2))
            clear hbl c0 c1 c2 c3
            go_wp2_with fail
            go_ret
            exact ⟨by simp [he], HFB.out⟩
end
end Go.Proofs.Yteaeccpmociphaa
