/-
  Layer 8, the program, by contract: going through (the closure that calls itself).
-/
import Derived.Test.YtekhkmhpeefenaaRolR
import Derived.Deep.RegionLaw
import Derived.Test.YtekhkmhpeefenaaObpC
import Derived.Test.YtekhkmhpeefenaaSetsC
namespace Go.Proofs.Ytekhkmhpeefenaa
set_option linter.unusedVariables false
open Go.RowKit Go.Sort

/-- The boxes of a walk: what has been seen (a map in block b), the members, the walk itself, whether a ring was come upon. -/
structure Fr (w : World) (B ps pm pv pr b n : Nat) (a : Option Addr) (len cap : Nat) (ms : List Mem) (c : Clr) (r : Bool) : Prop where
  s : w.cell? ⟨ps, 0, none⟩ = some (.map (some b))
  m : w.cell? ⟨pm, 0, none⟩ = some (.slice a len cap)
  v : w.cell? ⟨pv, 0, none⟩ = some (.func (.func 72) #[] #[.pointer (some ⟨ps, 0, none⟩), .pointer (some ⟨pm, 0, none⟩), .pointer (some ⟨pv, 0, none⟩), .pointer (some ⟨pr, 0, none⟩)])
  r : w.heap[pr]? = some (.cells #[.bool r] 4 (0, 0))
  map : ClrMap w b n c
  lst : Lst w (· < B) memP 2 (.slice a len cap) ms
structure Apart (B ps pm pv pr b : Nat) : Prop where
  bs : ps ≠ b
  bm : pm ≠ b
  bv : pv ≠ b
  br : pr ≠ b
  rs : ps ≠ pr
  rm : pm ≠ pr
  rv : pv ≠ pr
  rB : B ≤ pr
  bB : B ≤ b
section
variable {w w' : World} {B ps pm pv pr b n n' : Nat} {a : Option Addr} {len cap : Nat} {ms : List Mem} {c c' : Clr} {r r' : Bool}
theorem Fr.all (h : Fr w B ps pm pv pr b n a len cap ms c r) (hk : Keeps (fun _ => True) w w') : Fr w' B ps pm pv pr b n a len cap ms c r :=
  ⟨hk.cell h.s trivial, hk.cell h.m trivial, hk.cell h.v trivial, hk.row h.r trivial, h.map.keep hk trivial, mems_keep h.lst (fun _ h => h) (hk.mono fun _ _ => trivial)⟩
theorem Fr.put (h : Fr w B ps pm pv pr b n a len cap ms c r) (ap : Apart B ps pm pv pr b) (hk : Keeps (· ≠ b) w w') (hm : ClrMap w' b n' c') : Fr w' B ps pm pv pr b n' a len cap ms c' r :=
  ⟨hk.cell h.s ap.bs, hk.cell h.m ap.bm, hk.cell h.v ap.bv, hk.row h.r ap.br, hm, mems_keep h.lst (fun _ h => h) (hk.mono fun k hk e => by have := ap.bB; omega)⟩
theorem Fr.ring (h : Fr w B ps pm pv pr b n a len cap ms c r) (ap : Apart B ps pm pv pr b) : Fr (w.setCell ⟨pr, 0, none⟩ (.bool true)) B ps pm pv pr b n a len cap ms c true := by
  have hk : Keeps (· ≠ pr) w (w.setCell ⟨pr, 0, none⟩ (.bool true)) := Keeps.refl.setCell (by simp) _
  exact ⟨hk.cell h.s ap.rs, hk.cell h.m ap.rm, hk.cell h.v ap.rv, heap_setCell_same _ _ 0 _ _ _ h.r, h.map.keep hk (fun e => ap.br e.symm), mems_keep h.lst (fun _ h => h) (hk.mono fun k hk e => by have := ap.rB; omega)⟩
theorem Fr.rc (h : Fr w B ps pm pv pr b n a len cap ms c r) : w.cell? ⟨pr, 0, none⟩ = some (.bool r) := box_at h.r 0 rfl
theorem Fr.rz (h : Fr w B ps pm pv pr b n a len cap ms c r) : w.frozen? ⟨pr, 0, none⟩ = false := frozen_of_row w pr 0 _ _ h.r
end
def VisPost (w : World) (B ps pm pv pr b : Nat) (a : Option Addr) (len cap N : Nat) (ms : List Mem) (c : Clr) (r : Bool) (v : ByteArray) (e : Ending) (w' : World) : Prop :=
  e = .returned (.tuple #[]) ∧ ∃ n' c' r', Fr w' B ps pm pv pr b n' a len cap ms c' r' ∧ Vis ms c r v c' r' ∧ n' + 2 * whites ms c' ≤ N ∧ Keeps (fun k => k ≠ b ∧ k ≠ pr) w w'
/-- While a walk stands at its k-th member. -/
def VisAt (w : World) (B ps pm pv pr b : Nat) (a : Option Addr) (len cap N : Nat) (ms : List Mem) (c : Clr) (r : Bool) (v : ByteArray) (k : Nat) (wr : World) : Prop :=
  ∃ n' c' r', Fr wr B ps pm pv pr b n' a len cap ms c' r' ∧ Mid ms c r v k c' r' ∧ n' + 1 + 2 * whites ms c' ≤ N ∧ Keeps (fun k => k ≠ b ∧ k ≠ pr) w wr

set_option maxRecDepth 100000 in
set_option maxHeartbeats 4000000 in
theorem prog_visit_any (B ps pm pv pr b : Nat) (a : Option Addr) (len cap N : Nat) (ms : List Mem) (ap : Apart B ps pm pv pr b) (hsh : ∀ m ∈ ms, m.of.size ≤ maxLen) (hN : N ≤ 1000000) : ∀ (K : Nat) (N' n : Nat) (c : Clr) (r : Bool) (v : ByteArray) (w : World),
    Fr w B ps pm pv pr b n a len cap ms c r → Dfs ms c r v → v.size ≤ maxLen → whites ms (upd c v 1) < K → n + 2 + 2 * whites ms (upd c v 1) ≤ N' → N' ≤ N →
    Calls Try.prog 72 #[.string v, .pointer (some ⟨ps, 0, none⟩), .pointer (some ⟨pm, 0, none⟩), .pointer (some ⟨pv, 0, none⟩), .pointer (some ⟨pr, 0, none⟩)] w (VisPost w B ps pm pv pr b a len cap N' ms c r v) := by
  intro K
  induction K with
  | zero => intro _ _ _ _ _ _ _ _ _ h; omega
  | succ K ih =>
    intro N' n c r v w hf hd hv hK hn hNN
    obtain ⟨hl, hc, hm⟩ := hf.lst.len
    unfold maxLen at hm
    obtain ⟨w1, hr1, hm1, hk1⟩ := hf.map.put hv (by unfold maxLen; omega) 1 (by decide)
    have hf1 := hf.put ap hk1 hm1
    have s0 := hf.s
    have m1 := hf1.m
    have HL := Lib.hid hl
    have HS : Hid (VisAt w B ps pm pv pr b a len cap N' ms c r v 0 w1) := Lib.hid ⟨_, _, _, hf1, hd.start, by omega, hk1.mono fun k hk => hk.1⟩
    have HD := Lib.hid hd; have HV := Lib.hid hv; have HK := Lib.hid hK; have HN := Lib.hid (And.intro hn hNN); have HI := Lib.hid ih; have HAP := Lib.hid ap; have HSH := Lib.hid hsh; have HNB := Lib.hid hN
    clear hf hd hf1 hk1 hm1 ih hl hn hNN hK hN hsh ap
    go_enter Try.func72, Try.ntmps72
    go_wp2_with fail
    go_loopw [12] (fun i wr => ∃ k : Nat, k ≤ len ∧ i = .int .i64 k ∧ Hid (VisAt w B ps pm pv pr b a len cap N' ms c r v k wr)) (fun i _ => len - (intOf i).toNat)
    case atStart => exact ⟨0, Nat.zero_le _, rfl, HS⟩
    case round =>
      obtain ⟨k, hk, rfl, hn⟩ := hrel
      obtain ⟨n1, c1, r1, f1, d1, e1, kp⟩ := hn.out
      by_cases hlt : k < len
      · have lk : k < ms.length := by rw [HL.out]; exact hlt
        obtain ⟨g, q, x, rfl, hgB, hx, hcl⟩ := f1.lst.at lk
        have k0 : (0 : Int) ≤ (k : Int) := by omega
        have k1 : (k : Int) < (len : Int) := by omega
        have hyl := HSH.out ms[k] (List.getElem_mem lk)
        have hsk := fun h => d1.skip lk h
        have hbl := fun h => d1.black lk h
        have hgr := fun h1 h2 => d1.gray HD.out lk h1 h2
        have hdf := fun h1 h2 => d1.dfs HD.out lk h1 h2
        have hvi := fun (h1 : ms[k].role = v) (h2 : c1 ms[k].of = 0) c2 r2 h3 => d1.visit (c' := c2) (r' := r2) lk h1 h2 h3
        have hwh := fun (h : c1 ms[k].of = 0) => whites_upd (ms := ms) lk rfl h
        have hth := d1.three ms[k].of
        have HWH := Lib.hid (whites_le (ms := ms) (c := c1) (d := upd c v 1) fun x hx => d1.white hx)
        generalize ms[k] = y at *
        obtain ⟨yr, yo⟩ := y
        obtain rfl : x = [.string yr, .string yo] := hx
        have c0 : wr.cell? ⟨g, q + k * 2, none⟩ = _ := hcl 0 _ rfl
        have c1' := hcl 1 _ rfl
        have hal : Keeps (fun _ => True) wr (wr.alloc (.cells #[.string yr, .string yo] 45)) := Keeps.refl.alloc _
        have f2 := f1.all hal
        have hb2 := box_two wr (.string yr) (.string yo) 45
        have s2 := f2.s
        have v2 := f2.v
        simp only at hyl hsk hbl hgr hdf hvi hwh hth
        have l2 := f2.map.look hyl
        have hi1 := f1.s
        clear hcl f1
        have HF2 := Lib.hid f2; have HKP := Lib.hid (kp.trans (hal.mono fun _ _ => trivial)); have HE := Lib.hid e1
        clear f2 kp hal e1 d1 hn
        obtain ⟨b20, b21⟩ := hb2
        have HKN := Lib.hid (show k + 1 ≤ len by omega)
        by_cases hr : yr = v
        · subst hr
          have q1 : (yr.toList == yr.toList) = true := by simp
          rcases hth with h0 | h0 | h0
          · have q2 : (c1 yo == 0) = true := by simpa using h0
            have HC := Lib.hid (HI.out (N' - 1) n1 c1 r1 yo _ HF2.out (hdf rfl h0) hyl (by have := hwh h0; have := HK.out; have h5 := HWH.out; omega) (by have := hwh h0; have := HE.out; omega) (by have := HN.out.2; omega))
            have HVI := Lib.hid (hvi rfl h0)
            have HNE := Lib.hid (show 1 ≤ N' by have := HN.out.1; omega)
            rw [h0] at l2
            clear hvi hdf hgr hbl hsk hwh h0
            go_wp2_with fail
            refine HC.out.mono ?_
            rintro e w3 ⟨rfl, n3, c3, r3, f3, g3, e3, k3⟩
            have HS3 : Hid (VisAt w B ps pm pv pr b (some ⟨g, q, none⟩) len cap N' ms c r yr (k + 1) w3) := Lib.hid ⟨_, _, _, f3, HVI.out _ _ g3, by have := HNE.out; omega, HKP.out.trans k3⟩
            clear f3 g3 e3 k3
            go_wp2_with fail
            go_roundw
            case rel => exact ⟨k + 1, HKN.out, by go_num, HS3⟩
            case measure => have := HKN.out; simp [intOf]; omega
          · have q2 : (c1 yo == 0) = false := by rw [h0]; rfl
            have q3 : (c1 yo == 1) = true := by rw [h0]; rfl
            have rz := HF2.out.rz
            have HS3 : Hid (VisAt w B ps pm pv pr b (some ⟨g, q, none⟩) len cap N' ms c r yr (k + 1) ((wr.alloc (.cells #[.string yr, .string yo] 45)).setCell ⟨pr, 0, none⟩ (.bool true))) :=
              Lib.hid ⟨_, _, _, HF2.out.ring HAP.out, hgr rfl h0, HE.out, HKP.out.setCell (fun h => h.2 rfl) _⟩
            have rc := HF2.out.rc
            rw [h0] at l2
            clear hvi hdf hgr hbl hsk hwh h0
            go_wp2_with fail
            go_roundw
            case rel => exact ⟨k + 1, HKN.out, by go_num, HS3⟩
            case measure => have := HKN.out; simp [intOf]; omega
          · have q2 : (c1 yo == 0) = false := by rw [h0]; rfl
            have q3 : (c1 yo == 1) = false := by rw [h0]; rfl
            have HS3 : Hid (VisAt w B ps pm pv pr b (some ⟨g, q, none⟩) len cap N' ms c r yr (k + 1) (wr.alloc (.cells #[.string yr, .string yo] 45))) :=
              Lib.hid ⟨_, _, _, HF2.out, hbl h0, HE.out, HKP.out⟩
            rw [h0] at l2
            clear hvi hdf hgr hbl hsk hwh h0
            go_wp2_with fail
            go_roundw
            case rel => exact ⟨k + 1, HKN.out, by go_num, HS3⟩
            case measure => have := HKN.out; simp [intOf]; omega
        · have q1 : (yr.toList == v.toList) = false := eqT_no.2 hr
          have HS3 : Hid (VisAt w B ps pm pv pr b (some ⟨g, q, none⟩) len cap N' ms c r v (k + 1) (wr.alloc (.cells #[.string yr, .string yo] 45))) :=
            Lib.hid ⟨_, _, _, HF2.out, hsk hr, HE.out, HKP.out⟩
          clear hvi hdf hgr hbl hsk hwh hr hth
          go_wp2_with fail
          go_roundw
          case rel => exact ⟨k + 1, HKN.out, by go_num, HS3⟩
          case measure => have := HKN.out; simp [intOf]; omega
      · obtain rfl : len = k := by omega
        obtain ⟨w5, hr5, hm5, hk5⟩ := f1.map.put HV.out (by have := HN.out; have := HNB.out; unfold maxLen; omega) 2 (by decide)
        have hf5 := f1.put HAP.out hk5 hm5
        have s1 := f1.s
        have hd5 : Mid ms c r v ms.length c1 r1 := by rw [HL.out]; exact d1
        have HF : Hid (VisPost w B ps pm pv pr b a len cap N' ms c r v (.returned (.tuple #[])) w5) :=
          Lib.hid ⟨rfl, _, _, _, hf5, hd5.finish HD.out, by have := whites_end (ms := ms) (c := c1) (y := v) (i := 2) (by decide); omega, kp.trans (hk5.mono fun k hk => hk.1)⟩
        clear hf5 hd5 hm5 hk5 f1 d1 e1 kp hn
        go_wp2_with fail
        refine bodyPost_end (results_none rfl _ _ _) rfl ?_
        exact HF.out
end Go.Proofs.Ytekhkmhpeefenaa
