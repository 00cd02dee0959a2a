/-
  Layer 8, the program, by contract: goThrough, hasRing, is.
-/
import Derived.Test.YtekhkmhpeefenaaRolA
import Derived.Laws.EntriesVeiled
import Derived.BigRegion
import Derived.Carry
namespace Go.Proofs.Ytekhkmhpeefenaa
set_option linter.unusedVariables false
open Go.RowKit Go.Sort

def ThrPost (w : World) (ms : List Mem) (fr : List ByteArray) (e : Ending) (w' : World) : Prop :=
  ∃ b n c r, e = .returned (.tuple #[.map (some b), .bool r]) ∧ ClrMap w' b n c ∧ Top ms fr fr.length c r ∧ Below w.heap.size w w'

theorem loadVar_one {P : Program} {w : World} {ty : TypeId} {a : Addr} {v : Value} (hu : (isAgg ty).run P w = .ok false w) (hc : w.cell? a = some v) : (loadVar ty a).run P w = .ok v w := by
  unfold loadVar
  rw [Sem.run_bind, hu]
  simp [Result.andThen, run_load, hc]
theorem results_two_cells {P : Program} {fn : Func} {p u : Tmp} {ty ty' : TypeId} (h : fn.results = #[.cell p ty, .cell u ty']) (tmps : Array Value) (w : World) (a b : Addr) (x y : Value)
    (hp : tmps.getD p undef = .pointer (some a)) (hq : tmps.getD u undef = .pointer (some b)) (hx : (loadVar ty a).run P w = .ok x w) (hy : (loadVar ty' b).run P w = .ok y w) :
    (results fn tmps).run P w = .ok (.tuple #[x, y]) w := by
  have hp' : tmps[p]?.getD undef = .pointer (some a) := by simpa using hp
  have hq' : tmps[u]?.getD undef = .pointer (some b) := by simpa using hq
  simp only [results, h]
  simp [Result.andThen, hp', hq', asAddr, hx, hy]
/-- The boxes of goThrough, as they are made. -/
theorem thr_boxes (B : Nat) (a : Option Addr) (len cap : Nat) (ms : List Mem) (w : World) (hB : B ≤ w.heap.size) (h : Lst w (· < B) memP 2 (.slice a len cap) ms) (w0 : World)
    (hw : w0 = (((((w.alloc (.cells #[.slice a len cap] 23)).alloc (.cells #[.map (some (w.heap.size + 1 + 1 + 1))] 64)).alloc (.cells #[.bool false] 4)).alloc (.map #[] 0)).alloc
      (.cells #[.func (.func 72) #[] #[.pointer (some ⟨w.heap.size + 1, 0, none⟩), .pointer (some ⟨w.heap.size, 0, none⟩), .pointer (some ⟨w.heap.size + 1 + 1 + 1 + 1, 0, none⟩), .pointer (some ⟨w.heap.size + 1 + 1, 0, none⟩)]] 78))) :
    Fr w0 B (w.heap.size + 1) w.heap.size (w.heap.size + 1 + 1 + 1 + 1) (w.heap.size + 1 + 1) (w.heap.size + 1 + 1 + 1) 0 a len cap ms (fun _ => 0) false ∧
    Apart B (w.heap.size + 1) w.heap.size (w.heap.size + 1 + 1 + 1 + 1) (w.heap.size + 1 + 1) (w.heap.size + 1 + 1 + 1) ∧ Below w.heap.size w w0 ∧ w0.heap[w.heap.size + 1]? = some (.cells #[.map (some (w.heap.size + 1 + 1 + 1))] 64 (0, 0)) := by
  have e1 := size_box w (.cells #[.slice a len cap] 23)
  have n0 := heap_alloc_new w (.cells #[.slice a len cap] 23)
  have b1 : Below w.heap.size w (w.alloc (.cells #[.slice a len cap] 23)) := (Below.refl _ w).alloc (Nat.le_refl _) _
  generalize hw1 : w.alloc (.cells #[.slice a len cap] 23) = w1 at *
  have e2 := size_box w1 (.cells #[.map (some (w.heap.size + 1 + 1 + 1))] 64)
  have n1 := heap_alloc_new w1 (.cells #[.map (some (w.heap.size + 1 + 1 + 1))] 64)
  have b2 := (Below.refl _ w1).alloc (Nat.le_refl _) (.cells #[.map (some (w.heap.size + 1 + 1 + 1))] 64)
  generalize hw2 : w1.alloc (.cells #[.map (some (w.heap.size + 1 + 1 + 1))] 64) = w2 at *
  have e3 := size_box w2 (.cells #[.bool false] 4)
  have n2 := heap_alloc_new w2 (.cells #[.bool false] 4)
  have b3 := (Below.refl _ w2).alloc (Nat.le_refl _) (.cells #[.bool false] 4)
  generalize hw3 : w2.alloc (.cells #[.bool false] 4) = w3 at *
  have e4 := size_box w3 (.map #[] 0)
  have n3 := ClrMap.new w3
  have b4 := (Below.refl _ w3).alloc (Nat.le_refl _) (.map #[] 0)
  generalize hw4 : w3.alloc (.map #[] 0) = w4 at *
  have e5 := size_box w4 (.cells #[.func (.func 72) #[] #[.pointer (some ⟨w.heap.size + 1, 0, none⟩), .pointer (some ⟨w.heap.size, 0, none⟩), .pointer (some ⟨w.heap.size + 1 + 1 + 1 + 1, 0, none⟩), .pointer (some ⟨w.heap.size + 1 + 1, 0, none⟩)]] 78)
  have n4 := heap_alloc_new w4 (.cells #[.func (.func 72) #[] #[.pointer (some ⟨w.heap.size + 1, 0, none⟩), .pointer (some ⟨w.heap.size, 0, none⟩), .pointer (some ⟨w.heap.size + 1 + 1 + 1 + 1, 0, none⟩), .pointer (some ⟨w.heap.size + 1 + 1, 0, none⟩)]] 78)
  have b5 := (Below.refl _ w4).alloc (Nat.le_refl _) (.cells #[.func (.func 72) #[] #[.pointer (some ⟨w.heap.size + 1, 0, none⟩), .pointer (some ⟨w.heap.size, 0, none⟩), .pointer (some ⟨w.heap.size + 1 + 1 + 1 + 1, 0, none⟩), .pointer (some ⟨w.heap.size + 1 + 1, 0, none⟩)]] 78)
  rw [← hw] at e5 n4 b5
  have s1 : w1.heap.size = w.heap.size + 1 := e1
  have s2 : w2.heap.size = w.heap.size + 1 + 1 := by omega
  have s3 : w3.heap.size = w.heap.size + 1 + 1 + 1 := by omega
  have s4 : w4.heap.size = w.heap.size + 1 + 1 + 1 + 1 := by omega
  rw [s1] at n1
  rw [s2] at n2
  rw [s3] at n3
  rw [s4] at n4
  have hb15 : Below w1.heap.size w1 w0 := ((b2.trans (b3.mono (by omega))).trans (b4.mono (by omega))).trans (b5.mono (by omega))
  have hb25 : Below w2.heap.size w2 w0 := (b3.trans (b4.mono (by omega))).trans (b5.mono (by omega))
  have hb35 : Below w3.heap.size w3 w0 := b4.trans (b5.mono (by omega))
  have r0 := (hb15.block w.heap.size (by omega)).trans n0
  have r1 := (hb25.block (w.heap.size + 1) (by omega)).trans n1
  have r2 := (hb35.block (w.heap.size + 1 + 1) (by omega)).trans n2
  have hbel : Below w.heap.size w w0 := b1.trans (hb15.mono (by omega))
  refine ⟨⟨box_at r1 0 rfl, box_at r0 0 rfl, box_at n4 0 rfl, r2, n3.keep (Keeps.of_below b5 (S := (· < w4.heap.size)) fun _ h => h) (by show _ < _; omega), mems_keep h (fun _ h => h) (Keeps.of_below hbel fun k hk => Nat.lt_of_lt_of_le hk hB)⟩, ⟨by omega, by omega, by omega, by omega, by omega, by omega, by omega, by omega, by omega⟩, hbel, r1⟩

set_option maxRecDepth 100000 in
set_option maxHeartbeats 4000000 in
theorem prog_through_any (B : Nat) (a : Option Addr) (len cap : Nat) (fa : Option Addr) (fn fc : Nat) (ms : List Mem) (fr : List ByteArray) (w : World) (hB : B ≤ w.heap.size) (h : Lst w (· < B) memP 2 (.slice a len cap) ms) (hf : Lst w (· < B) strP 1 (.slice fa fn fc) fr)
    (hsh : ∀ m ∈ ms, m.of.size ≤ maxLen) (hfs : ∀ x ∈ fr, x.size ≤ maxLen) (hl : len ≤ 3000) (hfn : fn ≤ 3000) :
    Calls Try.prog 58 #[.slice a len cap, .slice fa fn fc] w (ThrPost w ms fr) := by
  have hmk := @run_makeMap Try.prog
  obtain ⟨w0, hw0⟩ : ∃ w0, w0 = (((((w.alloc (.cells #[.slice a len cap] 23)).alloc (.cells #[.map (some (w.heap.size + 1 + 1 + 1))] 64)).alloc (.cells #[.bool false] 4)).alloc (.map #[] 0)).alloc
      (.cells #[.func (.func 72) #[] #[.pointer (some ⟨w.heap.size + 1, 0, none⟩), .pointer (some ⟨w.heap.size, 0, none⟩), .pointer (some ⟨w.heap.size + 1 + 1 + 1 + 1, 0, none⟩), .pointer (some ⟨w.heap.size + 1 + 1, 0, none⟩)]] 78)) := ⟨_, rfl⟩
  obtain ⟨hfr, hap, hbel, hps⟩ := thr_boxes B a len cap ms w hB h w0 hw0
  obtain ⟨hl1, hc1, hm1⟩ := h.len
  obtain ⟨hl2, hc2, hm2⟩ := hf.len
  unfold maxLen at hm1 hm2
  have HF0 := Lib.hid hf
  have HL := Lib.hid hl2
  have HV := Lib.hid (fun K N' n c r v W => prog_visit_any B (w.heap.size + 1) w.heap.size (w.heap.size + 1 + 1 + 1 + 1) (w.heap.size + 1 + 1) (w.heap.size + 1 + 1 + 1) a len cap 100000 ms hap hsh (by omega) K N' n c r v W)
  have HAP := Lib.hid hap; have HFS := Lib.hid hfs; have HB := Lib.hid hB
  have HS : Hid (∃ n c r, Fr w0 B (w.heap.size + 1) w.heap.size (w.heap.size + 1 + 1 + 1 + 1) (w.heap.size + 1 + 1) (w.heap.size + 1 + 1 + 1) n a len cap ms c r ∧ Top ms fr 0 c r ∧ n + 2 * (fn - 0) + 2 * whites ms c ≤ 12000 ∧ Keeps (fun k => k ≠ w.heap.size + 1 + 1 + 1 ∧ k ≠ w.heap.size + 1 + 1) w0 w0) :=
    Lib.hid ⟨_, _, _, hfr, Top.start ms fr, by have := whites_all ms (fun _ => 0); omega, Keeps.refl⟩
  have HBEL := Lib.hid hbel
  have HPS := Lib.hid hps
  clear h hf hl2 hl1 hap hfs hsh hfr hbel hB hps
  go_enter Try.func58, Try.ntmps58
  go_wp2_with fail
  rw [← hw0]
  clear hw0 hmk
  go_loopw [13] (fun i wr => ∃ k : Nat, k ≤ fn ∧ i = .int .i64 k ∧ Hid (∃ n c r, Fr wr B (w.heap.size + 1) w.heap.size (w.heap.size + 1 + 1 + 1 + 1) (w.heap.size + 1 + 1) (w.heap.size + 1 + 1 + 1) n a len cap ms c r ∧ Top ms fr k c r ∧ n + 2 * (fn - k) + 2 * whites ms c ≤ 12000 ∧ Keeps (fun k => k ≠ w.heap.size + 1 + 1 + 1 ∧ k ≠ w.heap.size + 1 + 1) w0 wr)) (fun i _ => fn - (intOf i).toNat)
  case atStart => exact ⟨0, Nat.zero_le _, rfl, HS⟩
  case round =>
    obtain ⟨k, hk, rfl, hn⟩ := hrel
    obtain ⟨n1, c1, r1, f1, t1, e1, kp⟩ := hn.out
    have s1 := f1.s
    have v1 := f1.v
    have hbw := HBEL.out.trans (kp.below (B := w.heap.size) HBEL.out.size fun j hj => ⟨by omega, by omega⟩)
    by_cases hlt : k < fn
    · have lk : k < fr.length := by rw [HL.out]; exact hlt
      obtain ⟨g, q, x, rfl, hgB, hx, hcl⟩ := HF0.out.at lk
      have k0 : (0 : Int) ≤ (k : Int) := by omega
      have k1 : (k : Int) < (fn : Int) := by omega
      have hyl := HFS.out fr[k] (List.getElem_mem lk)
      have hsk := fun h => t1.skip lk h
      have hdf := fun h => t1.dfs lk h
      have hvi := fun c2 r2 h => t1.visit (c' := c2) (r' := r2) lk h
      have htw := t1.two fr[k]
      have hwh : whites ms (upd c1 fr[k] 1) ≤ whites ms c1 := whites_end (by decide)
      generalize fr[k] = y at *
      obtain rfl : x = [.string y] := hx
      have c0 : wr.cell? ⟨g, q + k, none⟩ = some (.string y) := by
        have := (hbw.cell (p := ⟨g, q + k * 1 + 0, none⟩) (Nat.lt_of_lt_of_le hgB HB.out)).trans (hcl 0 _ rfl)
        simpa using this
      have l1 := f1.map.look hyl
      have HKN := Lib.hid (show k + 1 ≤ fn by omega)
      clear hcl
      rcases htw with h0 | h0
      · have q2 : (c1 y == 0) = true := by simpa using h0
        have HC := Lib.hid (HV.out (whites ms c1 + 1) (12000 - 2 * (fn - (k + 1))) n1 c1 r1 y wr f1 (hdf h0) hyl (by omega) (by omega) (by omega))
        have HVI := Lib.hid hvi
        rw [h0] at l1
        have HKP := Lib.hid kp
        clear hvi hdf hsk hwh h0 f1 t1 hn e1 kp hbw
        go_wp2_with fail
        refine HC.out.mono ?_
        rintro e w3 ⟨rfl, n3, c3, r3, f3, g3, e3, k3⟩
        have HS3 : Hid (∃ n c r, Fr w3 B (w.heap.size + 1) w.heap.size (w.heap.size + 1 + 1 + 1 + 1) (w.heap.size + 1 + 1) (w.heap.size + 1 + 1 + 1) n a len cap ms c r ∧ Top ms fr (k + 1) c r ∧ n + 2 * (fn - (k + 1)) + 2 * whites ms c ≤ 12000 ∧ Keeps (fun k => k ≠ w.heap.size + 1 + 1 + 1 ∧ k ≠ w.heap.size + 1 + 1) w0 w3) :=
          Lib.hid ⟨_, _, _, f3, HVI.out _ _ g3, by omega, HKP.out.trans k3⟩
        clear f3 g3 e3 k3
        go_wp2_with fail
        go_roundw
        case rel => exact ⟨k + 1, HKN.out, by go_num, HS3⟩
        case measure => have := HKN.out; simp [intOf]; omega
      · have q2 : (c1 y == 0) = false := by rw [h0]; rfl
        have HS3 : Hid (∃ n c r, Fr wr B (w.heap.size + 1) w.heap.size (w.heap.size + 1 + 1 + 1 + 1) (w.heap.size + 1 + 1) (w.heap.size + 1 + 1 + 1) n a len cap ms c r ∧ Top ms fr (k + 1) c r ∧ n + 2 * (fn - (k + 1)) + 2 * whites ms c ≤ 12000 ∧ Keeps (fun k => k ≠ w.heap.size + 1 + 1 + 1 ∧ k ≠ w.heap.size + 1 + 1) w0 wr) :=
          Lib.hid ⟨_, _, _, f1, hsk (by rw [h0]; decide), by omega, kp⟩
        rw [h0] at l1
        clear hvi hdf hsk hwh h0 f1 t1 hn e1 kp hbw
        go_wp2_with fail
        go_roundw
        case rel => exact ⟨k + 1, HKN.out, by go_num, HS3⟩
        case measure => have := HKN.out; simp [intOf]; omega
    · obtain rfl : fn = k := by omega
      have r0 := f1.rc
      have z0 := f1.rz
      have z1 := frozen_of_row wr (w.heap.size + 1) 0 _ _ (kp.row HPS.out ⟨by omega, by omega⟩)
      have HF1 := Lib.hid f1; have HT := Lib.hid t1; have HBW := Lib.hid hbw
      clear f1 t1 hn e1 kp hbw
      go_wp2_with fail
      go_big_region
      go_wp2_with fail
      have hlen : Top ms fr fr.length c1 r1 := by rw [HL.out]; exact HT.out
      have g1 : ((wr.setCell ⟨w.heap.size + 1, 0, none⟩ (.map (some (w.heap.size + 1 + 1 + 1)))).setCell ⟨w.heap.size + 1 + 1, 0, none⟩ (.bool r1)).drew.cell? ⟨w.heap.size + 1, 0, none⟩ = some (.map (some (w.heap.size + 1 + 1 + 1))) := by
        show (World.setCell _ _ _).cell? _ = _
        rw [World.cell?_setCell_other _ _ _ _ (by simp), World.cell?_setCell_same _ _ _ (u := _) s1]
      have g2 : ((wr.setCell ⟨w.heap.size + 1, 0, none⟩ (.map (some (w.heap.size + 1 + 1 + 1)))).setCell ⟨w.heap.size + 1 + 1, 0, none⟩ (.bool r1)).drew.cell? ⟨w.heap.size + 1 + 1, 0, none⟩ = some (.bool r1) := by
        show (World.setCell _ _ _).cell? _ = _
        exact World.cell?_setCell_same _ _ _ (u := .bool r1) (by rw [World.cell?_setCell_other _ _ _ _ (by simp)]; exact r0)
      refine bodyPost_ret (results_two_cells rfl _ _ ⟨w.heap.size + 1, 0, none⟩ ⟨w.heap.size + 1 + 1, 0, none⟩ _ _ rfl rfl (loadVar_one (by kernel_rfl) g1) (loadVar_one (by kernel_rfl) g2)) rfl ?_
      have hk : Keeps (fun k => k ≠ w.heap.size + 1 ∧ k ≠ w.heap.size + 1 + 1) wr ((wr.setCell ⟨w.heap.size + 1, 0, none⟩ (.map (some (w.heap.size + 1 + 1 + 1)))).setCell ⟨w.heap.size + 1 + 1, 0, none⟩ (.bool r1)).drew :=
        ((Keeps.refl.setCell (p := ⟨w.heap.size + 1, 0, none⟩) (by simp) _).setCell (p := ⟨w.heap.size + 1 + 1, 0, none⟩) (by simp) _).drew
      exact ⟨_, _, _, _, rfl, HF1.out.map.keep hk ⟨by omega, by omega⟩, hlen, HBW.out.trans (hk.below HBW.out.size fun j hj => ⟨by omega, by omega⟩)⟩
end Go.Proofs.Ytekhkmhpeefenaa
