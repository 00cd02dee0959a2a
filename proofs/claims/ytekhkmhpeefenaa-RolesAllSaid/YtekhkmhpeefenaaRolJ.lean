/-
  Layer 8, the program, by contract: All.
-/
import Derived.Test.YtekhkmhpeefenaaRolK
namespace Go.Proofs.Ytekhkmhpeefenaa
set_option linter.unusedVariables false
open Go.RowKit Go.Sort Go.Shelf

set_option maxRecDepth 100000 in
set_option maxHeartbeats 8000000 in
theorem prog_rall_any (B : Nat) (vn vm : Value) (r : Rols) (x : ByteArray) (w : World) (h : rolP w (· < B) [vn, vm] r) (hB : B ≤ w.heap.size) (hs : smallR 3000 r) (hsh : shortR r) (hx : x.size ≤ maxLen) :
    Calls Try.prog 25 #[.agg #[vn, vm], .string x] w (AllPost w (allF r x)) := by
  obtain ⟨is, si, si0, si1, si2⟩ := info_parts strInfo
  have hO := OpenR.start h hB
  obtain ⟨na, nn, nc, ma, mn, mc, rfl, rfl, hnn, hmn, hnc, hmc, hnc2, hmc2, hn, hm⟩ := rol_form h
  have HC := Lib.hid (fun W (ho : OpenR w B (.slice na nn nc) (.slice ma mn mc) r W) => prog_rcheck_any B _ _ r W ho.rol ho.base hs hsh)
  have HT := Lib.hid (fun W (ho : OpenR w B (.slice na nn nc) (.slice ma mn mc) r W) => prog_there_any B _ _ r x W ho.rol)
  have HG := Lib.hid (fun W (ho : OpenR w B (.slice na nn nc) (.slice ma mn mc) r W) => by
    obtain ⟨_, _, hv, _, hm2⟩ := ho.rol
    simp only [List.cons.injEq, and_true] at hv
    obtain ⟨rfl, rfl⟩ := hv
    have hal := (Below.refl W.heap.size W).alloc (Nat.le_refl _) (.cells #[.string x] 9)
    have hsz := size_box W (.cells #[.string x] 9)
    have hl := ((lit_own W x).lst str_stays).keep (S' := (· < (W.alloc (.cells #[.string x] 9)).heap.size)) (fun k hk => hk.lt) Keeps.refl fun _ _ _ h => h
    have hT := prog_through_any (W.alloc (.cells #[.string x] 9)).heap.size ma mn mc (some ⟨W.heap.size, 0, none⟩) 1 1 r.mems [x] (W.alloc (.cells #[.string x] 9)) (Nat.le_refl _)
      (mems_keep hm2 (fun k hk => by have h1 := ho.base; omega) (Keeps.of_below hal fun k hk => Nat.lt_of_lt_of_le hk ho.base)) hl (fun m hm => (hsh.2 m hm).2) (fun z hz => by rw [List.mem_singleton.1 hz]; exact hx) (by have := hs.2; omega) (by omega)
    exact hT)
  have HO := Lib.hid hO
  have HNN := Lib.hid hnn; have HNS := Lib.hid hsh.1; have HN3 := Lib.hid (show nn ≤ 3000 by have := hs.1; omega)
  have x0 := hO.c0
  have x1 := hO.c1
  clear h hn hm hs hsh hO hnn hmn hB hx
  go_enter Try.func25, Try.ntmps25
  go_wp2_with fail
  generalize World.alloc w _ = w0 at *
  refine (HC.out _ HO.out).mono ?_
  rintro e w1 ⟨rfl, g1⟩
  have HO1 := Lib.hid (HO.out.on g1)
  clear g1 x0 x1
  have hok : okR r = if rightR r then 0 else 1 := rfl
  have x0 := HO1.out.c0
  have x1 := HO1.out.c1
  cases h1 : rightR r with
  | false =>
    have HF := Lib.hid (show allF r x = ([], 1) by unfold allF; rw [h1]; rfl)
    rw [h1] at hok
    rw [hok]
    clear hok
    go_wp2_with fail
    go_ret2
    rw [HF.out]
    exact ⟨_, rfl, OwnX.nil _ _ _ _ _, HO1.out.below⟩
  | true =>
    rw [h1] at hok
    rw [hok]
    clear hok
    go_wp2_with fail
    refine (HT.out _ HO1.out).mono ?_
    rintro e w2 ⟨rfl, g2⟩
    have HO2 := Lib.hid (HO1.out.on g2.below)
    clear g2 x0 x1
    have x0 := HO2.out.c0
    have x1 := HO2.out.c1
    cases h2 : inB r.names x with
    | false =>
      have HF := Lib.hid (show allF r x = ([], 71) by unfold allF; rw [h1, h2]; rfl)
      clear h1 h2
      go_wp2_with fail
      go_ret2
      rw [HF.out]
      exact ⟨_, rfl, OwnX.nil _ _ _ _ _, HO2.out.below⟩
    | true =>
      have HF := Lib.hid (show allF r x = (reachL r x, 0) by unfold allF; rw [h1, h2]; rfl)
      have HG2 := Lib.hid (HG.out _ HO2.out)
      have hal := (Below.refl w2.heap.size w2).alloc (Nat.le_refl _) (.cells #[.string x] 9)
      have HOA := Lib.hid (HO2.out.on hal)
      clear h1 h2 hal
      go_wp2_with fail
      refine HG2.out.mono ?_
      rintro e w3 ⟨b, n, c, g, rfl, hc, ht, hb3⟩
      have HO3 := Lib.hid (HOA.out.on hb3)
      have HCM := Lib.hid hc
      have HSE := Lib.hid (fun y => ht.seen y)
      clear hc ht hb3 x0 x1
      have x0 := HO3.out.c0
      have x1 := HO3.out.c1
      generalize w3 = wP at *
      have HA0 : Hid (OwnX strQ wP wP.heap.size 9 1 (.slice none 0 0) ([] : List ByteArray) ∧ Below wP.heap.size wP wP) := Lib.hid ⟨OwnX.nil _ _ _ _ _, Below.refl _ _⟩
      have hnn3 := HN3.out
      go_wp2_with fail
      clear x0 x1
      go_loopw [8, 31] (fun v i wr => ∃ (acc : List ByteArray) (k : Nat) (va' : Option Addr) (cap' : Nat), v = .slice va' acc.length cap' ∧ i = .int .i64 k ∧ k ≤ nn ∧ Hid (acc = (r.names.take k).filter (wayB r.mems x) ∧ OwnX strQ wr wP.heap.size 9 1 (.slice va' acc.length cap') acc ∧ Below wP.heap.size wP wr)) (fun _ i _ => nn - (intOf i).toNat)
      case atStart => exact ⟨[], 0, none, 0, rfl, rfl, Nat.zero_le _, Lib.hid ⟨by simp, HA0.out⟩⟩
      case round =>
        clear HA0
        obtain ⟨acc, k, va', cap', rfl, rfl, hk, HR⟩ := hrel
        obtain ⟨hac, hxx, hb⟩ := HR.out
        have ho2 := HO3.out.on hb
        by_cases hlt : k < nn
        · have lk : k < r.names.length := by rw [HNN.out]; exact hlt
          obtain ⟨_, _, _, _, _, _, _, _, _, _, _, _, _, _, hn2, _⟩ := rol_form ho2.rol
          obtain ⟨b', q, z, rfl, hbB, hzz, hcl⟩ := hn2.at lk
          have k0 : (0 : Int) ≤ (k : Int) := by omega
          have k1 : (k : Int) < (nn : Int) := by omega
          have hfl : (r.names.take (k + 1)).filter (wayB r.mems x) = (r.names.take k).filter (wayB r.mems x) ++ (if wayB r.mems x r.names[k] then [r.names[k]] else []) := by
            rw [List.take_succ_eq_append_getElem lk, List.filter_append, List.filter_cons]
            split <;> simp_all
          have hal : acc.length ≤ k := by rw [hac]; exact Nat.le_trans (List.length_filter_le _ _) (List.length_take_le _ _)
          have hys := HNS.out r.names[k] (List.getElem_mem lk)
          generalize r.names[k] = y at *
          obtain rfl : z = [.string y] := hzz
          have c0 : wr.cell? ⟨b', q + k, none⟩ = some (.string y) := by have := hcl 0 _ rfl; simpa using this
          have hlook := (HCM.out.keep (Keeps.of_below hb (S := (· < wP.heap.size)) fun _ h => h) HCM.out.lt).look hys
          have hse := HSE.out y
          have HX := Lib.hid hxx; have HB := Lib.hid hb; have HAC := Lib.hid hac; have HFL := Lib.hid hfl; have HAL := Lib.hid hal
          have HKN := Lib.hid (show k + 1 ≤ nn by omega)
          clear hcl hxx hb hn2 ho2 hac hfl HR hal
          by_cases h0 : c y = 0
          · have q0 : (c y != 0) = false := by simpa using h0
            have hq := wayB_no.2 (hse.1 h0)
            have HN := Lib.hid (And.intro (show acc = (r.names.take (k + 1)).filter (wayB r.mems x) by rw [HFL.out, hq, HAC.out]; simp) (And.intro HX.out HB.out))
            rw [h0] at hlook
            clear hq hse h0
            go_wp2_with fail
            go_roundw
            case rel => exact ⟨acc, k + 1, _, _, rfl, by go_num, HKN.out, HN⟩
            case measure => have := HKN.out; simp [intOf]; omega
          · have q0 : (c y != 0) = true := by simpa using h0
            have hq : wayB r.mems x y = true := wayB_iff.2 (Classical.byContradiction fun hn => h0 (hse.2 hn))
            have HN := Lib.hid (show acc ++ [y] = (r.names.take (k + 1)).filter (wayB r.mems x) by rw [HFL.out, hq, HAC.out]; simp)
            have hal4 := (Below.refl _ wr).alloc (Nat.le_refl _) (.cells #[.string y] 9)
            have HLIT := Lib.hid (lit_str wr y)
            have HX4 := Lib.hid (HX.out.below str_stays hal4)
            have HB4 := Lib.hid (below_on HB.out (Nat.le_refl _) hal4)
            have HZ4 := Lib.hid (show wP.heap.size ≤ (wr.alloc (.cells #[.string y] 9)).heap.size from HB4.out.size)
            have HM4 := Lib.hid (show acc.length + 1 ≤ maxLen by have := HAL.out; have := HN3.out; unfold maxLen; omega)
            have HBY4 := Lib.hid (show ((acc.length + 1) + (acc.length + 1) / 4 + 192) * 16 ≤ 281474976710656 by have := HAL.out; have := HN3.out; omega)
            clear hq hal4 hse h0
            go_wp2_with (at_builtin; refine wpList_append_flat rfl _ _ 22 rfl wP.heap.size 9 is _ 1 16 Try.underlying22 si si0 si1 si2 rfl (by decide) str_stays (fun h => h) rfl HX4.out rfl HLIT.out HM4.out HBY4.out HZ4.out ?_)
            intro v5 w5 hx5 hb5 _
            have hx5' := hx5
            obtain ⟨va5, cap5, rfl, _, _⟩ := hx5'.form
            have HF5 := Lib.hid (And.intro HN.out (And.intro hx5 (HB4.out.trans hb5)))
            clear hx5 hb5 hx5'
            go_wp2_with fail
            go_roundw
            case rel => exact ⟨acc ++ [y], k + 1, _, _, rfl, by go_num, HKN.out, HF5⟩
            case measure => have := HKN.out; simp [intOf]; omega
        · obtain rfl : nn = k := by omega
          have HE : Hid (OwnX strQ wr w.heap.size 9 1 (.slice va' acc.length cap') (reachL r x) ∧ Below w.heap.size w wr) := Lib.hid ⟨by
            have e : acc = reachL r x := by
              rw [hac, ← HNN.out, List.take_length]
              rfl
            rw [← e]
            exact hxx.mono str_stays HO3.out.below.size, ho2.below⟩
          clear hac hxx hb ho2 HR
          go_wp2_with fail
          go_ret2
          rw [HF.out]
          exact ⟨_, rfl, HE.out.1, HE.out.2⟩
end Go.Proofs.Ytekhkmhpeefenaa
