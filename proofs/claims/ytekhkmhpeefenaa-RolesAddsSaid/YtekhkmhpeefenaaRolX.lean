/-
  Layer 8, the document's answer, by contract: Add, Drop. (Made by wip/gen_rref.py.)
-/
import Derived.Test.YtekhkmhpeefenaaRolW
namespace Go.Proofs.Ytekhkmhpeefenaa
set_option linter.unusedVariables false
open Go.RowKit Go.Sort Go.Shelf

noncomputable def addRF (r : Rols) (a : ByteArray) : Rols × Int :=
  if (rightR r && nameB a) = false then (noR, 1) else if inB r.names a = true then (noR, 70) else if 16 ≤ r.names.length then (noR, 2) else (⟨insBy ltT a r.names, r.mems⟩, 0)
def usedBy (r : Rols) (a : ByteArray) : Bool := r.mems.any fun m => eqT m.role a || eqT m.of a
noncomputable def dropRF (r : Rols) (a : ByteArray) : Rols × Int :=
  if rightR r = false then (noR, 1) else if inB r.names a = false then (noR, 71) else if usedBy r a = true then (noR, 73) else (⟨r.names.filter fun n => !eqT n a, r.mems⟩, 0)

set_option maxRecDepth 100000 in
set_option maxHeartbeats 16000000 in
theorem ref_radd_any (B : Nat) (vn vm : Value) (r : Rols) (a : ByteArray) (w : World) (h : rolP w (· < B) [vn, vm] r) (hB : B ≤ w.heap.size) (hs : smallR 3000 r) :
    Calls Try.prog 15 #[.agg #[vn, vm], .string a] w (OutR w (addRF r a)) := by
  obtain ⟨is, si, si0, si1, si2⟩ := info_parts strInfo
  obtain ⟨na, nn, nc, ma, mn, mc, rfl, rfl, hnn, hmn, hnc, hmc, hnc2, hmc2, hn, hm⟩ := rol_form h
  obtain ⟨w0, hw0⟩ : ∃ w0, w0 = ((w.alloc (.cells #[.slice na nn nc, .slice ma mn mc] 25)).alloc (.cells #[.slice none 0 0, .slice none 0 0] 25)) := ⟨_, rfl⟩
  obtain ⟨q0, q1, hsz, hbw⟩ := boxes2 w (.cells #[.slice na nn nc, .slice ma mn mc] 25) (.cells #[.slice none 0 0, .slice none 0 0] 25)
  rw [← hw0] at q0 q1 hsz hbw
  have HI : Hid ((Try.prog.info? 25).map (·.size) = some 2) := Lib.hid (by kernel_rfl)
  have HON : Hid ((#[.slice none 0 0, .slice none 0 0] : Array Value).all (·.oneCell') = true) := Lib.hid (by kernel_rfl)
  have HRL := Lib.hid (fun W (hW : Below w0.heap.size w0 W) => (rol_on h hB (hbw.trans (hW.mono hbw.size)) : rolP W (· < B) [.slice na nn nc, .slice ma mn mc] r))
  have HBS := Lib.hid (fun W (hW : Below w0.heap.size w0 W) => (Nat.le_trans hB (hbw.trans (hW.mono hbw.size)).size : B ≤ W.heap.size))
  have HBL := Lib.hid (fun W (hW : Below w0.heap.size w0 W) => (hbw.trans (hW.mono hbw.size) : Below w.heap.size w W))
  have HQ0 := Lib.hid (fun W (hW : Below w0.heap.size w0 W) => ((hW.block w.heap.size (lt_of_block q0)).trans q0 : W.heap[w.heap.size]? = _))
  have HQ1 := Lib.hid (fun W (hW : Below w0.heap.size w0 W) => ((hW.block (w.heap.size + 1) (lt_of_block q1)).trans q1 : W.heap[w.heap.size + 1]? = _))
  have HCK := Lib.hid (fun W (hW : Below w0.heap.size w0 W) => ref_rright_any B r _ _ W (HRL.out W hW) (HBS.out W hW))
  have HOW := Lib.hid (fun W (hW : Below w0.heap.size w0 W) => ref_rown_any B _ _ r W (HRL.out W hW) (HBS.out W hW) hs)
  have HB0 := Lib.hid (Below.refl w0.heap.size w0)
  have HNN := Lib.hid hnn; have HMN := Lib.hid hmn
  have HSZ := Lib.hid hsz; have HHB := Lib.hid hB
  have HN3 := Lib.hid (show nn ≤ 3000 by have := hs.1; omega)
  have HIN := Lib.hid (fun x W (hW : Below w0.heap.size w0 W) => ref_in_any na nn nc B r.names x W (by obtain ⟨_, _, hv, hn2, _⟩ := HRL.out W hW; simp only [List.cons.injEq, and_true] at hv; obtain ⟨rfl, rfl⟩ := hv; exact hn2))
  clear h hn hm hs q0 q1 hsz hbw hnn hmn hB hnc hmc hnc2 hmc2
  have x0 := box_at (HQ0.out w0 HB0.out) 0 rfl
  have x1 := box_at (HQ0.out w0 HB0.out) 1 rfl
  subst hw0
  go_enter Try.func15, Try.ntmps15
  go_wp2_with fail
  generalize World.alloc (World.alloc w _) _ = w0 at *
  refine (HCK.out w0 HB0.out).mono ?_
  rintro e w1 ⟨rfl, g⟩
  have HB1 := Lib.hid (below_on HB0.out (Nat.le_refl _) g)
  clear g x0 x1
  have x0 := box_at (HQ0.out w1 HB1.out) 0 rfl
  have x1 := box_at (HQ0.out w1 HB1.out) 1 rfl
  cases h1 : rightR r with
  | false =>
    have HF := Lib.hid (show addRF r a = (noR, 1) by unfold addRF; rw [if_pos (by rw [h1]; rfl)])
    go_wp2_with fail
    refine (ref_rno_any 1 _).mono ?_
    rintro e w9 ⟨rfl, b9⟩
    have HB9 := Lib.hid (below_on HB1.out (Nat.le_refl _) b9)
    clear b9
    have HG9 := Lib.hid (HQ1.out w9 HB9.out)
    have HROW9 := Lib.hid (setRow_heap _ _ _ #[.slice none 0 0, .slice none 0 0] _ _ HG9.out)
    go_wp2_with (refine wpList_store_box rfl 25 _ _ rfl (w.heap.size + 1) 25 _ #[.slice none 0 0, .slice none 0 0] rfl rfl HG9.out HI.out rfl HON.out ?_)
    refine bodyPost_ret (results_box_tmp rfl _ _ (w.heap.size + 1) _ _ (0, 0) _ rfl HROW9.out Try.underlying25 rfl HI.out) rfl ?_
    rw [HF.out]
    exact outR_no (HBL.out w9 HB9.out) (Nat.le_succ _)
  | true =>
    have HNA := Lib.hid (ref_name_any a w1)
    cases h2 : nameB a with
    | false =>
      rw [h2] at HNA
      have HH2 := Lib.hid h2; have HH1 := Lib.hid h1
      clear h2 h1
      go_wp2_with fail
      refine HNA.out.mono ?_
      rintro e w' ⟨rfl, rfl⟩
      have HF := Lib.hid (show addRF r a = (noR, 1) by unfold addRF; rw [if_pos (by rw [HH1.out, HH2.out]; rfl)])
      go_wp2_with fail
      refine (ref_rno_any 1 _).mono ?_
      rintro e w9 ⟨rfl, b9⟩
      have HB9 := Lib.hid (below_on HB1.out (Nat.le_refl _) b9)
      clear b9
      have HG9 := Lib.hid (HQ1.out w9 HB9.out)
      have HROW9 := Lib.hid (setRow_heap _ _ _ #[.slice none 0 0, .slice none 0 0] _ _ HG9.out)
      go_wp2_with (refine wpList_store_box rfl 25 _ _ rfl (w.heap.size + 1) 25 _ #[.slice none 0 0, .slice none 0 0] rfl rfl HG9.out HI.out rfl HON.out ?_)
      refine bodyPost_ret (results_box_tmp rfl _ _ (w.heap.size + 1) _ _ (0, 0) _ rfl HROW9.out Try.underlying25 rfl HI.out) rfl ?_
      rw [HF.out]
      exact outR_no (HBL.out w9 HB9.out) (Nat.le_succ _)
    | true =>
    rw [h2] at HNA
    have HJ1 := Lib.hid (show addRF r a = (if inB r.names a = true then (noR, 70) else if 16 ≤ r.names.length then (noR, 2) else (⟨insBy ltT a r.names, r.mems⟩, 0)) by unfold addRF; rw [if_neg (by rw [h1, h2]; simp)])
    clear h1 h2
    go_wp2_with fail
    refine HNA.out.mono ?_
    rintro e w' ⟨rfl, rfl⟩
    have HIA := Lib.hid (HIN.out a w1 HB1.out)
    cases h3 : inB r.names a with
    | true =>
      rw [h3] at HIA
      have HJ2 := Lib.hid (show addRF r a = (noR, 70) by rw [HJ1.out, if_pos h3])
      clear h3
      go_wp2_with fail
      refine HIA.out.mono ?_
      rintro e w' ⟨rfl, rfl⟩
      have HF := Lib.hid (show addRF r a = (noR, 70) by exact HJ2.out)
      go_wp2_with fail
      refine (ref_rno_any 70 _).mono ?_
      rintro e w9 ⟨rfl, b9⟩
      have HB9 := Lib.hid (below_on HB1.out (Nat.le_refl _) b9)
      clear b9
      have HG9 := Lib.hid (HQ1.out w9 HB9.out)
      have HROW9 := Lib.hid (setRow_heap _ _ _ #[.slice none 0 0, .slice none 0 0] _ _ HG9.out)
      go_wp2_with (refine wpList_store_box rfl 25 _ _ rfl (w.heap.size + 1) 25 _ #[.slice none 0 0, .slice none 0 0] rfl rfl HG9.out HI.out rfl HON.out ?_)
      refine bodyPost_ret (results_box_tmp rfl _ _ (w.heap.size + 1) _ _ (0, 0) _ rfl HROW9.out Try.underlying25 rfl HI.out) rfl ?_
      rw [HF.out]
      exact outR_no (HBL.out w9 HB9.out) (Nat.le_succ _)
    | false =>
    rw [h3] at HIA
    have HJ2 := Lib.hid (show addRF r a = (if 16 ≤ r.names.length then (noR, 2) else (⟨insBy ltT a r.names, r.mems⟩, 0)) by rw [HJ1.out, if_neg (by rw [h3]; simp)])
    clear h3
    go_wp2_with fail
    refine HIA.out.mono ?_
    rintro e w' ⟨rfl, rfl⟩
    by_cases h4 : 16 ≤ nn
    case pos =>
      have n4 : (16 : Int) ≤ (nn : Int) := by omega
      have HJ3 := Lib.hid (show addRF r a = (noR, 2) by rw [HJ2.out, if_pos (by rw [HNN.out]; exact h4)])
      clear h4
      have HF := Lib.hid (show addRF r a = (noR, 2) by exact HJ3.out)
      go_wp2_with fail
      refine (ref_rno_any 2 _).mono ?_
      rintro e w9 ⟨rfl, b9⟩
      have HB9 := Lib.hid (below_on HB1.out (Nat.le_refl _) b9)
      clear b9
      have HG9 := Lib.hid (HQ1.out w9 HB9.out)
      have HROW9 := Lib.hid (setRow_heap _ _ _ #[.slice none 0 0, .slice none 0 0] _ _ HG9.out)
      go_wp2_with (refine wpList_store_box rfl 25 _ _ rfl (w.heap.size + 1) 25 _ #[.slice none 0 0, .slice none 0 0] rfl rfl HG9.out HI.out rfl HON.out ?_)
      refine bodyPost_ret (results_box_tmp rfl _ _ (w.heap.size + 1) _ _ (0, 0) _ rfl HROW9.out Try.underlying25 rfl HI.out) rfl ?_
      rw [HF.out]
      exact outR_no (HBL.out w9 HB9.out) (Nat.le_succ _)
    case neg =>
    have n4 : ¬ ((16 : Int) ≤ (nn : Int)) := by omega
    have HF := Lib.hid (show addRF r a = (⟨insBy ltT a r.names, r.mems⟩, 0) by rw [HJ2.out, if_neg (by rw [HNN.out]; exact h4)])
    clear h4
    go_wp2_with fail
    refine (HOW.out w1 HB1.out).mono ?_
    rintro e wO ⟨vn2, vm2, rfl, hvn, hvm, g⟩
    obtain ⟨na2, nc2, rfl, _, _⟩ := id hvn.form
    obtain ⟨ma2, mc2, rfl, _, _⟩ := id hvm.form
    rw [HMN.out] at hvm
    rw [HNN.out, HMN.out]
    have HBO := Lib.hid (below_on HB1.out (Nat.le_refl _) g)
    have HVM := Lib.hid (hvm.mono mem_stays (HBL.out _ HB1.out).size)
    clear g hvn hvm x0 x1
    have hq8 := heap_alloc_new wO (.cells #[.slice na2 nn nc2, .slice ma2 mn mc2] 25)
    have hb8 := (Below.refl wO.heap.size wO).alloc (Nat.le_refl _) (.cells #[.slice na2 nn nc2, .slice ma2 mn mc2] 25)
    have HQ8' := Lib.hid hq8; have HB8 := Lib.hid hb8
    clear hq8 hb8
    have x0 := box_at (HQ0.out _ (below_on HBO.out (Nat.le_refl _) HB8.out)) 0 rfl
    go_wp2_with fail
    generalize World.alloc wO _ = wQ at *
    have HBQ := Lib.hid (below_on HBO.out (Nat.le_refl _) HB8.out)
    have HQ8 := Lib.hid (fun W (hW : Below wQ.heap.size wQ W) => ((hW.block wO.heap.size (lt_of_block HQ8'.out)).trans HQ8'.out : W.heap[wO.heap.size]? = _))
    have HA0 : Hid (OwnX strQ wQ wQ.heap.size 9 1 (.slice none 0 0) ([] : List ByteArray) ∧ Below wQ.heap.size wQ wQ) := Lib.hid ⟨OwnX.nil _ _ _ _ _, Below.refl _ _⟩
    clear x0
    go_loopw [7, 8, 9] (fun v u i wr => ∃ (acc : List ByteArray) (k : Nat) (bi : Bool) (va' : Option Addr) (cap' : Nat), v = .slice va' acc.length cap' ∧ u = .bool bi ∧ i = .int .i64 k ∧ k ≤ nn ∧ Hid (LaidB ltT a r.names acc k bi ∧ OwnX strQ wr wQ.heap.size 9 1 (.slice va' acc.length cap') acc ∧ Below wQ.heap.size wQ wr)) (fun _ _ i _ => nn - (intOf i).toNat)
    case atStart => exact ⟨[], 0, false, none, 0, rfl, rfl, rfl, Nat.zero_le _, Lib.hid ⟨laidB_start, HA0.out⟩⟩
    case round =>
      clear HA0
      obtain ⟨acc, k, bi, va', cap', rfl, rfl, rfl, hk, HR⟩ := hrel
      obtain ⟨hac, hx, hb⟩ := HR.out
      have hb0 := below_on HBQ.out (Nat.le_refl _) hb
      have x0 := box_at (HQ0.out _ hb0) 0 rfl
      have hnn3 : nn ≤ 3000 := HN3.out
      have hln := laidB_len hac
      have HXR := Lib.hid hx; have HBR := Lib.hid hb
      have HLN := Lib.hid (show acc.length ≤ 3001 by omega)
      by_cases hlt : k < nn
      · have lk : k < r.names.length := by rw [HNN.out]; exact hlt
        obtain ⟨_, _, _, _, _, _, _, _, _, _, _, _, _, _, hn2, _⟩ := rol_form (HRL.out _ hb0)
        obtain ⟨bb, q, x, rfl, hbB, hxx, hcl⟩ := hn2.at lk
        have HBB := Lib.hid (show bb < wQ.heap.size from Nat.lt_of_lt_of_le hbB (HBS.out _ HBQ.out))
        have k0 : (0 : Int) ≤ (k : Int) := by omega
        have k1 : (k : Int) < (nn : Int) := by omega
        have HMORE := Lib.hid (fun (e : bi = true) => laidB_more (e ▸ hac) lk)
        have HPASS := Lib.hid (fun (e : bi = false) => laidB_pass (e ▸ hac) lk)
        have HHERE := Lib.hid (fun (e : bi = false) => laidB_here (e ▸ hac) lk)
        generalize r.names[k] = y at *
        obtain rfl : x = [.string y] := hxx
        have c0 : wr.cell? ⟨bb, q + k, none⟩ = some (.string y) := by have := hcl 0 _ rfl; simpa using this
        have HKN := Lib.hid (show k + 1 ≤ nn by omega)
        clear hac hx hb hb0 hn2 hcl HR hln
        cases bi with
        | true =>
          have HN := Lib.hid (HMORE.out rfl)
          clear HMORE HPASS HHERE
          have hal5 := (Below.refl _ wr).alloc (Nat.le_refl _) (.cells #[.string y] 9)
          have HLIT := Lib.hid (lit_str wr y)
          have HX5 := Lib.hid (HXR.out.below str_stays hal5)
          have HB5 := Lib.hid (below_on HBR.out (Nat.le_refl _) hal5)
          have HZ5 := Lib.hid (show wQ.heap.size ≤ (World.alloc wr (.cells #[.string y] 9)).heap.size from HB5.out.size)
          have HM5 := Lib.hid (show acc.length + 1 ≤ maxLen by have := HLN.out; unfold maxLen; omega)
          have HBY5 := Lib.hid (show ((acc.length + 1) + (acc.length + 1) / 4 + 192) * 16 ≤ 281474976710656 by have := HLN.out; omega)
          have HA5 := Lib.hid hal5
          clear hal5
          go_wp2_with (at_builtin; refine wpList_append_flat rfl _ _ 22 rfl wQ.heap.size 9 is _ 1 16 Try.underlying22 si si0 si1 si2 rfl (by decide) str_stays (fun h => h) rfl HX5.out rfl HLIT.out HM5.out HBY5.out HZ5.out ?_)
          intro v6 w6 hx6 hb6 _
          have hx6' := hx6
          obtain ⟨va6, cap6, rfl, _, _⟩ := hx6'.form
          have HFF := Lib.hid (And.intro HN.out (And.intro hx6 (HB5.out.trans hb6)))
          clear hx6 hb6 hx6'
          go_wp2_with fail
          go_roundw
          case rel => exact ⟨acc ++ [y], k + 1, _, _, _, rfl, rfl, by go_num, HKN.out, HFF⟩
          case measure => have := HKN.out; simp [intOf]; omega
        | false =>
          cases hl1 : ltT a y with
          | true =>
            have el1 : Op.bytesLess a.toList y.toList = true := hl1
            have HN := Lib.hid (HHERE.out rfl hl1)
            clear HMORE HPASS HHERE hl1
            have hal5 := (Below.refl _ wr).alloc (Nat.le_refl _) (.cells #[.string a] 9)
            have HLIT := Lib.hid (lit_str wr a)
            have HX5 := Lib.hid (HXR.out.below str_stays hal5)
            have HB5 := Lib.hid (below_on HBR.out (Nat.le_refl _) hal5)
            have HZ5 := Lib.hid (show wQ.heap.size ≤ (World.alloc wr (.cells #[.string a] 9)).heap.size from HB5.out.size)
            have HM5 := Lib.hid (show acc.length + 1 ≤ maxLen by have := HLN.out; unfold maxLen; omega)
            have HBY5 := Lib.hid (show ((acc.length + 1) + (acc.length + 1) / 4 + 192) * 16 ≤ 281474976710656 by have := HLN.out; omega)
            have HA5 := Lib.hid hal5
            clear hal5
            go_wp2_with (at_builtin; refine wpList_append_flat rfl _ _ 22 rfl wQ.heap.size 9 is _ 1 16 Try.underlying22 si si0 si1 si2 rfl (by decide) str_stays (fun h => h) rfl HX5.out rfl HLIT.out HM5.out HBY5.out HZ5.out ?_)
            intro v6 w6 hx6 hb6 _
            have hb6w := (HA5.out.mono HBR.out.size).trans hb6
            have c6 := (hb6w.cell (p := ⟨bb, q + k, none⟩) HBB.out).trans c0
            have HB6 := Lib.hid (HB5.out.trans hb6)
            have x06 := box_at (HQ0.out _ (below_on HBQ.out (Nat.le_refl _) HB6.out)) 0 rfl
            have hx6' := hx6
            obtain ⟨va6, cap6, rfl, _, _⟩ := hx6'.form
            have hal7 := (Below.refl _ w6).alloc (Nat.le_refl _) (.cells #[.string y] 9)
            have HLIT7 := Lib.hid (lit_str w6 y)
            have HX7 := Lib.hid (hx6.below str_stays hal7)
            have HB7 := Lib.hid (below_on HB6.out (Nat.le_refl _) hal7)
            have HZ7 := Lib.hid (show wQ.heap.size ≤ (World.alloc w6 (.cells #[.string y] 9)).heap.size from HB7.out.size)
            have HM7 := Lib.hid (show (acc ++ [a]).length + 1 ≤ maxLen by have := HLN.out; rw [List.length_append, List.length_singleton]; unfold maxLen; omega)
            have HBY7 := Lib.hid (show (((acc ++ [a]).length + 1) + ((acc ++ [a]).length + 1) / 4 + 192) * 16 ≤ 281474976710656 by have := HLN.out; rw [List.length_append, List.length_singleton]; omega)
            clear hx6 hb6 hx6' hb6w hal7
            go_wp2_with (at_builtin; refine wpList_append_flat rfl _ _ 22 rfl wQ.heap.size 9 is _ 1 16 Try.underlying22 si si0 si1 si2 rfl (by decide) str_stays (fun h => h) rfl HX7.out rfl HLIT7.out HM7.out HBY7.out HZ7.out ?_)
            intro v8 w8 hx8 hb8 _
            have hx8' := hx8
            obtain ⟨va8, cap8, rfl, _, _⟩ := hx8'.form
            have HFF := Lib.hid (And.intro (show LaidB ltT a r.names (acc ++ [a, y]) (k + 1) true by have h := HN.out; rw [List.append_assoc] at h; exact h) (And.intro hx8 (HB7.out.trans hb8)))
            clear hx8 hb8 hx8'
            go_wp2_with fail
            go_roundw
            case rel => exact ⟨acc ++ [a, y], k + 1, _, _, _, rfl, rfl, by go_num, HKN.out, HFF⟩
            case measure => have := HKN.out; simp [intOf]; omega
          | false =>
            have el1 : Op.bytesLess a.toList y.toList = false := hl1
            have HN := Lib.hid (HPASS.out rfl hl1)
            clear HMORE HPASS HHERE hl1
            have hal5 := (Below.refl _ wr).alloc (Nat.le_refl _) (.cells #[.string y] 9)
            have HLIT := Lib.hid (lit_str wr y)
            have HX5 := Lib.hid (HXR.out.below str_stays hal5)
            have HB5 := Lib.hid (below_on HBR.out (Nat.le_refl _) hal5)
            have HZ5 := Lib.hid (show wQ.heap.size ≤ (World.alloc wr (.cells #[.string y] 9)).heap.size from HB5.out.size)
            have HM5 := Lib.hid (show acc.length + 1 ≤ maxLen by have := HLN.out; unfold maxLen; omega)
            have HBY5 := Lib.hid (show ((acc.length + 1) + (acc.length + 1) / 4 + 192) * 16 ≤ 281474976710656 by have := HLN.out; omega)
            have HA5 := Lib.hid hal5
            clear hal5
            go_wp2_with (at_builtin; refine wpList_append_flat rfl _ _ 22 rfl wQ.heap.size 9 is _ 1 16 Try.underlying22 si si0 si1 si2 rfl (by decide) str_stays (fun h => h) rfl HX5.out rfl HLIT.out HM5.out HBY5.out HZ5.out ?_)
            intro v6 w6 hx6 hb6 _
            have hx6' := hx6
            obtain ⟨va6, cap6, rfl, _, _⟩ := hx6'.form
            have HFF := Lib.hid (And.intro HN.out (And.intro hx6 (HB5.out.trans hb6)))
            clear hx6 hb6 hx6'
            go_wp2_with fail
            go_roundw
            case rel => exact ⟨acc ++ [y], k + 1, _, _, _, rfl, rfl, by go_num, HKN.out, HFF⟩
            case measure => have := HKN.out; simp [intOf]; omega
      · obtain rfl : nn = k := by omega
        rw [← HNN.out] at hac
        cases bi with
        | true =>
          obtain rfl : acc = insBy ltT a r.names := laidB_end hac
          generalize va' = va at *
          generalize cap' = cap at *
          clear hac HR hln hb0
          have hb0' := below_on HBQ.out (Nat.le_refl _) hb
          generalize wr = wF at *
          have HXF := Lib.hid hx; have HBF := Lib.hid hb; have HBWF0 := Lib.hid hb0'
          have HBOF := Lib.hid (HB8.out.trans (hb.mono HB8.out.size)); have HBWF := Lib.hid (HBL.out _ hb0')
          have HWQ := Lib.hid (HBL.out _ HBQ.out).size
          clear hx hb hb0'
          have hr8 := HQ8.out wF HBF.out
          have x8z := frozen_of_row _ wO.heap.size 0 _ _ hr8
          have x80 := box_at hr8 0 rfl
          have hk8 : Keeps (· ≠ wO.heap.size) wF (wF.setCell ⟨wO.heap.size, 0, none⟩ (.slice va (insBy ltT a r.names).length cap)) := Keeps.refl.setCell (by simp) _
          have hr9 := heap_setCell_same wF wO.heap.size 0 _ _ (.slice va (insBy ltT a r.names).length cap) hr8
          have z0 := box_at hr9 0 rfl
          have z1 := box_at hr9 1 rfl
          have hnF := HXF.out.move (fun h => h) hk8 fun g hg => HXF.out.off hr8 (by decide) hg
          have hmO := HVM.out.below mem_stays HBOF.out
          have hmF := hmO.move (fun h => h) hk8 fun g hg => hmO.off hr8 (by decide) hg
          have hbF : Below w.heap.size w (wF.setCell ⟨wO.heap.size, 0, none⟩ (.slice va (insBy ltT a r.names).length cap)) := (HBWF.out).trans (hk8.below HBWF.out.size fun j hj => by have := HBO.out.size; have := (HBL.out _ HBO.out).size; omega)
          have HGF := Lib.hid (hk8.row (HQ1.out wF HBWF0.out) (by have := HSZ.out; have := HBO.out.size; omega))
          have HMF := Lib.hid hmF; have HNF := Lib.hid (hnF.mono str_stays (show w.heap.size ≤ wQ.heap.size from HWQ.out)); have HBFF := Lib.hid hbF
          have HOS : Hid ((#[.slice va (insBy ltT a r.names).length cap, .slice ma2 mn mc2] : Array Value).all (·.oneCell') = true) := Lib.hid (by kernel_rfl)
          have HROWF := Lib.hid (setRow_heap _ _ _ #[.slice va (insBy ltT a r.names).length cap, .slice ma2 mn mc2] _ _ HGF.out)
          clear hr8 hk8 hr9 hmF hmO hnF hbF
          go_wp2_with (refine wpList_store_box rfl 25 _ _ rfl (w.heap.size + 1) 25 _ #[.slice va (insBy ltT a r.names).length cap, .slice ma2 mn mc2] rfl rfl HGF.out HI.out rfl HOS.out ?_)
          refine bodyPost_ret (results_box_tmp rfl _ _ (w.heap.size + 1) _ _ (0, 0) _ rfl HROWF.out Try.underlying25 rfl HI.out) rfl ?_
          rw [HF.out]
          exact outR_yes (c := 0) HBFF.out (Nat.le_succ _) HGF.out HNF.out HMF.out
        | false =>
          have HLS := Lib.hid (laidB_last hac)
          clear hac HR hln hx hb hb0
          have hal5 := (Below.refl _ wr).alloc (Nat.le_refl _) (.cells #[.string a] 9)
          have HLIT := Lib.hid (lit_str wr a)
          have HX5 := Lib.hid (HXR.out.below str_stays hal5)
          have HB5 := Lib.hid (below_on HBR.out (Nat.le_refl _) hal5)
          have HZ5 := Lib.hid (show wQ.heap.size ≤ (World.alloc wr (.cells #[.string a] 9)).heap.size from HB5.out.size)
          have HM5 := Lib.hid (show acc.length + 1 ≤ maxLen by have := HLN.out; unfold maxLen; omega)
          have HBY5 := Lib.hid (show ((acc.length + 1) + (acc.length + 1) / 4 + 192) * 16 ≤ 281474976710656 by have := HLN.out; omega)
          have HA5 := Lib.hid hal5
          clear hal5
          go_wp2_with (at_builtin; refine wpList_append_flat rfl _ _ 22 rfl wQ.heap.size 9 is _ 1 16 Try.underlying22 si si0 si1 si2 rfl (by decide) str_stays (fun h => h) rfl HX5.out rfl HLIT.out HM5.out HBY5.out HZ5.out ?_)
          intro v6 w6 hx6 hb6 _
          obtain ⟨va, cap, rfl, _, _⟩ := id hx6.form
          have hb6' := HB5.out.trans hb6
          rw [HLS.out] at hx6 ⊢

          have hb0' := below_on HBQ.out (Nat.le_refl _) hb6'
          generalize w6 = wF at *
          have HXF := Lib.hid hx6; have HBF := Lib.hid hb6'; have HBWF0 := Lib.hid hb0'
          have HBOF := Lib.hid (HB8.out.trans (hb6'.mono HB8.out.size)); have HBWF := Lib.hid (HBL.out _ hb0')
          have HWQ := Lib.hid (HBL.out _ HBQ.out).size

          clear hx6 hb6 hb6' hb0' x0

          have hr8 := HQ8.out wF HBF.out
          have x8z := frozen_of_row _ wO.heap.size 0 _ _ hr8
          have x80 := box_at hr8 0 rfl
          have hk8 : Keeps (· ≠ wO.heap.size) wF (wF.setCell ⟨wO.heap.size, 0, none⟩ (.slice va (insBy ltT a r.names).length cap)) := Keeps.refl.setCell (by simp) _
          have hr9 := heap_setCell_same wF wO.heap.size 0 _ _ (.slice va (insBy ltT a r.names).length cap) hr8
          have z0 := box_at hr9 0 rfl
          have z1 := box_at hr9 1 rfl
          have hnF := HXF.out.move (fun h => h) hk8 fun g hg => HXF.out.off hr8 (by decide) hg
          have hmO := HVM.out.below mem_stays HBOF.out
          have hmF := hmO.move (fun h => h) hk8 fun g hg => hmO.off hr8 (by decide) hg
          have hbF : Below w.heap.size w (wF.setCell ⟨wO.heap.size, 0, none⟩ (.slice va (insBy ltT a r.names).length cap)) := (HBWF.out).trans (hk8.below HBWF.out.size fun j hj => by have := HBO.out.size; have := (HBL.out _ HBO.out).size; omega)
          have HGF := Lib.hid (hk8.row (HQ1.out wF HBWF0.out) (by have := HSZ.out; have := HBO.out.size; omega))
          have HMF := Lib.hid hmF; have HNF := Lib.hid (hnF.mono str_stays (show w.heap.size ≤ wQ.heap.size from HWQ.out)); have HBFF := Lib.hid hbF
          have HOS : Hid ((#[.slice va (insBy ltT a r.names).length cap, .slice ma2 mn mc2] : Array Value).all (·.oneCell') = true) := Lib.hid (by kernel_rfl)
          have HROWF := Lib.hid (setRow_heap _ _ _ #[.slice va (insBy ltT a r.names).length cap, .slice ma2 mn mc2] _ _ HGF.out)
          clear hr8 hk8 hr9 hmF hmO hnF hbF
          go_wp2_with (refine wpList_store_box rfl 25 _ _ rfl (w.heap.size + 1) 25 _ #[.slice va (insBy ltT a r.names).length cap, .slice ma2 mn mc2] rfl rfl HGF.out HI.out rfl HOS.out ?_)
          refine bodyPost_ret (results_box_tmp rfl _ _ (w.heap.size + 1) _ _ (0, 0) _ rfl HROWF.out Try.underlying25 rfl HI.out) rfl ?_
          rw [HF.out]
          exact outR_yes (c := 0) HBFF.out (Nat.le_succ _) HGF.out HNF.out HMF.out

set_option maxRecDepth 100000 in
set_option maxHeartbeats 16000000 in
theorem ref_rdrop_any (B : Nat) (vn vm : Value) (r : Rols) (a : ByteArray) (w : World) (h : rolP w (· < B) [vn, vm] r) (hB : B ≤ w.heap.size) (hs : smallR 3000 r) :
    Calls Try.prog 17 #[.agg #[vn, vm], .string a] w (OutR w (dropRF r a)) := by
  obtain ⟨is, si, si0, si1, si2⟩ := info_parts strInfo
  obtain ⟨na, nn, nc, ma, mn, mc, rfl, rfl, hnn, hmn, hnc, hmc, hnc2, hmc2, hn, hm⟩ := rol_form h
  obtain ⟨w0, hw0⟩ : ∃ w0, w0 = ((w.alloc (.cells #[.slice na nn nc, .slice ma mn mc] 25)).alloc (.cells #[.slice none 0 0, .slice none 0 0] 25)) := ⟨_, rfl⟩
  obtain ⟨q0, q1, hsz, hbw⟩ := boxes2 w (.cells #[.slice na nn nc, .slice ma mn mc] 25) (.cells #[.slice none 0 0, .slice none 0 0] 25)
  rw [← hw0] at q0 q1 hsz hbw
  have HI : Hid ((Try.prog.info? 25).map (·.size) = some 2) := Lib.hid (by kernel_rfl)
  have HON : Hid ((#[.slice none 0 0, .slice none 0 0] : Array Value).all (·.oneCell') = true) := Lib.hid (by kernel_rfl)
  have HRL := Lib.hid (fun W (hW : Below w0.heap.size w0 W) => (rol_on h hB (hbw.trans (hW.mono hbw.size)) : rolP W (· < B) [.slice na nn nc, .slice ma mn mc] r))
  have HBS := Lib.hid (fun W (hW : Below w0.heap.size w0 W) => (Nat.le_trans hB (hbw.trans (hW.mono hbw.size)).size : B ≤ W.heap.size))
  have HBL := Lib.hid (fun W (hW : Below w0.heap.size w0 W) => (hbw.trans (hW.mono hbw.size) : Below w.heap.size w W))
  have HQ0 := Lib.hid (fun W (hW : Below w0.heap.size w0 W) => ((hW.block w.heap.size (lt_of_block q0)).trans q0 : W.heap[w.heap.size]? = _))
  have HQ1 := Lib.hid (fun W (hW : Below w0.heap.size w0 W) => ((hW.block (w.heap.size + 1) (lt_of_block q1)).trans q1 : W.heap[w.heap.size + 1]? = _))
  have HCK := Lib.hid (fun W (hW : Below w0.heap.size w0 W) => ref_rright_any B r _ _ W (HRL.out W hW) (HBS.out W hW))
  have HOW := Lib.hid (fun W (hW : Below w0.heap.size w0 W) => ref_rown_any B _ _ r W (HRL.out W hW) (HBS.out W hW) hs)
  have HB0 := Lib.hid (Below.refl w0.heap.size w0)
  have HNN := Lib.hid hnn; have HMN := Lib.hid hmn
  have HSZ := Lib.hid hsz; have HHB := Lib.hid hB
  have HN3 := Lib.hid (show nn ≤ 3000 by have := hs.1; omega)
  have HM3 := Lib.hid (show mn ≤ 3000 by have := hs.2; omega)
  have HIN := Lib.hid (fun x W (hW : Below w0.heap.size w0 W) => ref_in_any na nn nc B r.names x W (by obtain ⟨_, _, hv, hn2, _⟩ := HRL.out W hW; simp only [List.cons.injEq, and_true] at hv; obtain ⟨rfl, rfl⟩ := hv; exact hn2))
  clear h hn hm hs q0 q1 hsz hbw hnn hmn hB hnc hmc hnc2 hmc2
  have x0 := box_at (HQ0.out w0 HB0.out) 0 rfl
  have x1 := box_at (HQ0.out w0 HB0.out) 1 rfl
  subst hw0
  go_enter Try.func17, Try.ntmps17
  go_wp2_with fail
  generalize World.alloc (World.alloc w _) _ = w0 at *
  refine (HCK.out w0 HB0.out).mono ?_
  rintro e w1 ⟨rfl, g⟩
  have HB1 := Lib.hid (below_on HB0.out (Nat.le_refl _) g)
  clear g x0 x1
  have x0 := box_at (HQ0.out w1 HB1.out) 0 rfl
  have x1 := box_at (HQ0.out w1 HB1.out) 1 rfl
  cases h1 : rightR r with
  | false =>
    have HF := Lib.hid (show dropRF r a = (noR, 1) by unfold dropRF; rw [if_pos h1])
    go_wp2_with fail
    refine (ref_rno_any 1 _).mono ?_
    rintro e w9 ⟨rfl, b9⟩
    have HB9 := Lib.hid (below_on HB1.out (Nat.le_refl _) b9)
    clear b9
    have HG9 := Lib.hid (HQ1.out w9 HB9.out)
    have HROW9 := Lib.hid (setRow_heap _ _ _ #[.slice none 0 0, .slice none 0 0] _ _ HG9.out)
    go_wp2_with (refine wpList_store_box rfl 25 _ _ rfl (w.heap.size + 1) 25 _ #[.slice none 0 0, .slice none 0 0] rfl rfl HG9.out HI.out rfl HON.out ?_)
    refine bodyPost_ret (results_box_tmp rfl _ _ (w.heap.size + 1) _ _ (0, 0) _ rfl HROW9.out Try.underlying25 rfl HI.out) rfl ?_
    rw [HF.out]
    exact outR_no (HBL.out w9 HB9.out) (Nat.le_succ _)
  | true =>
    have HIA := Lib.hid (HIN.out a w1 HB1.out)
    cases h3 : inB r.names a with
    | false =>
      rw [h3] at HIA
      have HJ2 := Lib.hid (show dropRF r a = (noR, 71) by unfold dropRF; rw [if_neg (by rw [h1]; simp), if_pos h3])
      clear h3 h1
      go_wp2_with fail
      refine HIA.out.mono ?_
      rintro e w' ⟨rfl, rfl⟩
      have HF := Lib.hid (show dropRF r a = (noR, 71) by exact HJ2.out)
      go_wp2_with fail
      refine (ref_rno_any 71 _).mono ?_
      rintro e w9 ⟨rfl, b9⟩
      have HB9 := Lib.hid (below_on HB1.out (Nat.le_refl _) b9)
      clear b9
      have HG9 := Lib.hid (HQ1.out w9 HB9.out)
      have HROW9 := Lib.hid (setRow_heap _ _ _ #[.slice none 0 0, .slice none 0 0] _ _ HG9.out)
      go_wp2_with (refine wpList_store_box rfl 25 _ _ rfl (w.heap.size + 1) 25 _ #[.slice none 0 0, .slice none 0 0] rfl rfl HG9.out HI.out rfl HON.out ?_)
      refine bodyPost_ret (results_box_tmp rfl _ _ (w.heap.size + 1) _ _ (0, 0) _ rfl HROW9.out Try.underlying25 rfl HI.out) rfl ?_
      rw [HF.out]
      exact outR_no (HBL.out w9 HB9.out) (Nat.le_succ _)
    | true =>
    rw [h3] at HIA
    have HJ2 := Lib.hid (show dropRF r a = (if usedBy r a = true then (noR, 73) else (⟨r.names.filter fun n => !eqT n a, r.mems⟩, 0)) by unfold dropRF; rw [if_neg (by rw [h1]; simp), if_neg (by rw [h3]; simp)])
    clear h3 h1
    have hmn3 : mn ≤ 3000 := HM3.out
    go_wp2_with fail
    refine HIA.out.mono ?_
    rintro e w' ⟨rfl, rfl⟩
    go_wp2_with fail
    go_loop [6] (fun i => ∃ k : Nat, k ≤ mn ∧ i = .int .i64 k ∧ Hid (∀ y ∈ r.mems.take k, (eqT y.role a || eqT y.of a) = false)) (fun i => mn - (intOf i).toNat)
    case atStart => exact ⟨0, Nat.zero_le _, rfl, Lib.hid (by simp)⟩
    case round =>
      obtain ⟨k, hk, rfl, hn⟩ := hrel
      by_cases hlt : k < mn
      · have lk : k < r.mems.length := by rw [HMN.out]; exact hlt
        obtain ⟨_, _, _, _, _, _, _, _, _, _, _, _, _, _, _, hm2⟩ := rol_form (HRL.out _ HB1.out)
        obtain ⟨bb, o, z, rfl, hbB, hz, hcl⟩ := hm2.at lk
        have hyes : (eqT r.mems[k].role a || eqT r.mems[k].of a) = true → usedBy r a = true := fun h => List.any_eq_true.2 ⟨_, List.getElem_mem lk, h⟩
        have hno := fun h => take_any_succ (p := fun y : Mem => eqT y.role a || eqT y.of a) lk hn.out h
        have k0 : (0 : Int) ≤ (k : Int) := by omega
        have k1 : (k : Int) < (mn : Int) := by omega
        generalize r.mems[k] = y at *
        obtain ⟨yr, yo⟩ := y
        obtain rfl : z = [.string yr, .string yo] := hz
        have c0 : w1.cell? ⟨bb, o + k * 2, none⟩ = _ := hcl 0 _ rfl
        have c1 := hcl 1 _ rfl
        have HKN := Lib.hid (show k + 1 ≤ mn by omega)
        simp only at hyes hno
        clear hcl hn hm2
        cases hq1 : eqT yr a with
        | true =>
          have e1 : (yr.toList == a.toList) = true := hq1
          have HY := Lib.hid (show dropRF r a = (noR, 73) by rw [HJ2.out, if_pos (hyes (by rw [hq1]; rfl))])
          clear hyes hno hq1
          have HF := Lib.hid (show dropRF r a = (noR, 73) by exact HY.out)
          go_wp2_with fail
          refine (ref_rno_any 73 _).mono ?_
          rintro e w9 ⟨rfl, b9⟩
          have HB9 := Lib.hid (below_on HB1.out (Nat.le_refl _) b9)
          clear b9
          have HG9 := Lib.hid (HQ1.out w9 HB9.out)
          have HROW9 := Lib.hid (setRow_heap _ _ _ #[.slice none 0 0, .slice none 0 0] _ _ HG9.out)
          go_wp2_with (refine wpList_store_box rfl 25 _ _ rfl (w.heap.size + 1) 25 _ #[.slice none 0 0, .slice none 0 0] rfl rfl HG9.out HI.out rfl HON.out ?_)
          refine bodyPost_ret (results_box_tmp rfl _ _ (w.heap.size + 1) _ _ (0, 0) _ rfl HROW9.out Try.underlying25 rfl HI.out) rfl ?_
          rw [HF.out]
          exact outR_no (HBL.out w9 HB9.out) (Nat.le_succ _)
        | false =>
          have e1 : (yr.toList == a.toList) = false := hq1
          cases hq2 : eqT yo a with
          | true =>
            have e2 : (yo.toList == a.toList) = true := hq2
            have HY := Lib.hid (show dropRF r a = (noR, 73) by rw [HJ2.out, if_pos (hyes (by rw [hq2]; simp))])
            clear hyes hno hq1 hq2
            have HF := Lib.hid (show dropRF r a = (noR, 73) by exact HY.out)
            go_wp2_with fail
            refine (ref_rno_any 73 _).mono ?_
            rintro e w9 ⟨rfl, b9⟩
            have HB9 := Lib.hid (below_on HB1.out (Nat.le_refl _) b9)
            clear b9
            have HG9 := Lib.hid (HQ1.out w9 HB9.out)
            have HROW9 := Lib.hid (setRow_heap _ _ _ #[.slice none 0 0, .slice none 0 0] _ _ HG9.out)
            go_wp2_with (refine wpList_store_box rfl 25 _ _ rfl (w.heap.size + 1) 25 _ #[.slice none 0 0, .slice none 0 0] rfl rfl HG9.out HI.out rfl HON.out ?_)
            refine bodyPost_ret (results_box_tmp rfl _ _ (w.heap.size + 1) _ _ (0, 0) _ rfl HROW9.out Try.underlying25 rfl HI.out) rfl ?_
            rw [HF.out]
            exact outR_no (HBL.out w9 HB9.out) (Nat.le_succ _)
          | false =>
            have e2 : (yo.toList == a.toList) = false := hq2
            have HN := Lib.hid (hno (by rw [hq1, hq2]; rfl))
            clear hyes hno hq1 hq2
            go_wp2_with fail
            go_round
            case rel => exact ⟨k + 1, HKN.out, by go_num, HN⟩
            case measure => have := HKN.out; simp [intOf]; omega
      · have hu : usedBy r a = false := by
          have h := hn.out
          rw [List.take_of_length_le (by rw [HMN.out]; omega)] at h
          exact List.any_eq_false.2 fun x hx => by rw [h x hx]; simp
        have HF := Lib.hid (show dropRF r a = (⟨r.names.filter fun n => !eqT n a, r.mems⟩, 0) by rw [HJ2.out, if_neg (by rw [hu]; simp)])
        clear hu hn
        go_wp2_with fail
        clear x1 hlt
        refine (HOW.out w1 HB1.out).mono ?_
        rintro e wO ⟨vn2, vm2, rfl, hvn, hvm, g⟩
        obtain ⟨na2, nc2, rfl, _, _⟩ := id hvn.form
        obtain ⟨ma2, mc2, rfl, _, _⟩ := id hvm.form
        rw [HMN.out] at hvm
        rw [HNN.out, HMN.out]
        have HBO := Lib.hid (below_on HB1.out (Nat.le_refl _) g)
        have HVM := Lib.hid (hvm.mono mem_stays (HBL.out _ HB1.out).size)
        clear g hvn hvm x0
        have hq8 := heap_alloc_new wO (.cells #[.slice na2 nn nc2, .slice ma2 mn mc2] 25)
        have hb8 := (Below.refl wO.heap.size wO).alloc (Nat.le_refl _) (.cells #[.slice na2 nn nc2, .slice ma2 mn mc2] 25)
        have HQ8' := Lib.hid hq8; have HB8 := Lib.hid hb8
        clear hq8 hb8
        have x0 := box_at (HQ0.out _ (below_on HBO.out (Nat.le_refl _) HB8.out)) 0 rfl
        go_wp2_with fail
        generalize World.alloc wO _ = wQ at *
        have HBQ := Lib.hid (below_on HBO.out (Nat.le_refl _) HB8.out)
        have HQ8 := Lib.hid (fun W (hW : Below wQ.heap.size wQ W) => ((hW.block wO.heap.size (lt_of_block HQ8'.out)).trans HQ8'.out : W.heap[wO.heap.size]? = _))
        have HA0 : Hid (OwnX strQ wQ wQ.heap.size 9 1 (.slice none 0 0) ([] : List ByteArray) ∧ Below wQ.heap.size wQ wQ) := Lib.hid ⟨OwnX.nil _ _ _ _ _, Below.refl _ _⟩
        clear x0
        go_loopw [8, 9] (fun v i wr => ∃ (acc : List ByteArray) (k : Nat) (va' : Option Addr) (cap' : Nat), v = .slice va' acc.length cap' ∧ i = .int .i64 k ∧ k ≤ nn ∧ Hid (acc = ((r.names.take k).filter fun n => !eqT n a) ∧ OwnX strQ wr wQ.heap.size 9 1 (.slice va' acc.length cap') acc ∧ Below wQ.heap.size wQ wr)) (fun _ i _ => nn - (intOf i).toNat)
        case atStart => exact ⟨[], 0, none, 0, rfl, rfl, Nat.zero_le _, Lib.hid ⟨by simp, HA0.out⟩⟩
        case round =>
          clear HA0
          obtain ⟨acc, k, va', cap', rfl, rfl, hk, HR⟩ := hrel
          obtain ⟨hac, hx, hb⟩ := HR.out
          have hb0 := below_on HBQ.out (Nat.le_refl _) hb
          have x0 := box_at (HQ0.out _ hb0) 0 rfl
          have hnn3 : nn ≤ 3000 := HN3.out
          have hln : acc.length ≤ k := by rw [hac]; exact Nat.le_trans (List.length_filter_le _ _) (List.length_take_le _ _)
          have HXR := Lib.hid hx; have HBR := Lib.hid hb
          have HLN := Lib.hid (show acc.length ≤ 3001 by omega)
          by_cases hlt : k < nn
          · have lk : k < r.names.length := by rw [HNN.out]; exact hlt
            obtain ⟨_, _, _, _, _, _, _, _, _, _, _, _, _, _, hn2, _⟩ := rol_form (HRL.out _ hb0)
            obtain ⟨bb, q, x, rfl, hbB, hxx, hcl⟩ := hn2.at lk
            have HBB := Lib.hid (show bb < wQ.heap.size from Nat.lt_of_lt_of_le hbB (HBS.out _ HBQ.out))
            have k0 : (0 : Int) ≤ (k : Int) := by omega
            have k1 : (k : Int) < (nn : Int) := by omega
            have hfl : ((r.names.take (k + 1)).filter fun n => !eqT n a) = ((r.names.take k).filter fun n => !eqT n a) ++ (if eqT r.names[k] a = true then [] else [r.names[k]]) := by
              rw [List.take_succ_eq_append_getElem lk, List.filter_append, List.filter_cons]
              cases eqT r.names[k] a <;> simp
            generalize r.names[k] = y at *
            obtain rfl : x = [.string y] := hxx
            have c0 : wr.cell? ⟨bb, q + k, none⟩ = some (.string y) := by have := hcl 0 _ rfl; simpa using this
            have HKN := Lib.hid (show k + 1 ≤ nn by omega)
            cases hq1 : eqT y a with
            | true =>
              have e1 : (y.toList == a.toList) = true := hq1
              have HFF := Lib.hid (show acc = ((r.names.take (k + 1)).filter fun n => !eqT n a) ∧ OwnX strQ wr wQ.heap.size 9 1 (.slice va' acc.length cap') acc ∧ Below wQ.heap.size wQ wr from ⟨by rw [hfl, if_pos hq1, List.append_nil]; exact hac, hx, hb⟩)
              clear hac hx hb hb0 hn2 hcl HR hln hfl hq1
              go_wp2_with fail
              go_roundw
              case rel => exact ⟨acc, k + 1, _, _, rfl, by go_num, HKN.out, HFF⟩
              case measure => have := HKN.out; simp [intOf]; omega
            | false =>
              have e1 : (y.toList == a.toList) = false := hq1
              have HN := Lib.hid (show acc ++ [y] = ((r.names.take (k + 1)).filter fun n => !eqT n a) by rw [hfl, if_neg (by rw [hq1]; simp), ← hac])
              clear hac hx hb hb0 hn2 hcl HR hln hfl hq1
              have hal5 := (Below.refl _ wr).alloc (Nat.le_refl _) (.cells #[.string y] 9)
              have HLIT := Lib.hid (lit_str wr y)
              have HX5 := Lib.hid (HXR.out.below str_stays hal5)
              have HB5 := Lib.hid (below_on HBR.out (Nat.le_refl _) hal5)
              have HZ5 := Lib.hid (show wQ.heap.size ≤ (World.alloc wr (.cells #[.string y] 9)).heap.size from HB5.out.size)
              have HM5 := Lib.hid (show acc.length + 1 ≤ maxLen by have := HLN.out; unfold maxLen; omega)
              have HBY5 := Lib.hid (show ((acc.length + 1) + (acc.length + 1) / 4 + 192) * 16 ≤ 281474976710656 by have := HLN.out; omega)
              have HA5 := Lib.hid hal5
              clear hal5
              go_wp2_with (at_builtin; refine wpList_append_flat rfl _ _ 22 rfl wQ.heap.size 9 is _ 1 16 Try.underlying22 si si0 si1 si2 rfl (by decide) str_stays (fun h => h) rfl HX5.out rfl HLIT.out HM5.out HBY5.out HZ5.out ?_)
              intro v6 w6 hx6 hb6 _
              have hx6' := hx6
              obtain ⟨va6, cap6, rfl, _, _⟩ := hx6'.form
              have HFF := Lib.hid (And.intro HN.out (And.intro hx6 (HB5.out.trans hb6)))
              clear hx6 hb6 hx6'
              go_wp2_with fail
              go_roundw
              case rel => exact ⟨acc ++ [y], k + 1, _, _, rfl, by go_num, HKN.out, HFF⟩
              case measure => have := HKN.out; simp [intOf]; omega
          · obtain rfl : nn = k := by omega
            obtain rfl : acc = (r.names.filter fun n => !eqT n a) := by rw [hac, ← HNN.out, List.take_length]
            generalize va' = va at *
            generalize cap' = cap at *
            clear hac HR hln hb0
            have hb0' := below_on HBQ.out (Nat.le_refl _) hb
            generalize wr = wF at *
            have HXF := Lib.hid hx; have HBF := Lib.hid hb; have HBWF0 := Lib.hid hb0'
            have HBOF := Lib.hid (HB8.out.trans (hb.mono HB8.out.size)); have HBWF := Lib.hid (HBL.out _ hb0')
            have HWQ := Lib.hid (HBL.out _ HBQ.out).size
            clear hx hb hb0'
            have hr8 := HQ8.out wF HBF.out
            have x8z := frozen_of_row _ wO.heap.size 0 _ _ hr8
            have x80 := box_at hr8 0 rfl
            have hk8 : Keeps (· ≠ wO.heap.size) wF (wF.setCell ⟨wO.heap.size, 0, none⟩ (.slice va (r.names.filter fun n => !eqT n a).length cap)) := Keeps.refl.setCell (by simp) _
            have hr9 := heap_setCell_same wF wO.heap.size 0 _ _ (.slice va (r.names.filter fun n => !eqT n a).length cap) hr8
            have z0 := box_at hr9 0 rfl
            have z1 := box_at hr9 1 rfl
            have hnF := HXF.out.move (fun h => h) hk8 fun g hg => HXF.out.off hr8 (by decide) hg
            have hmO := HVM.out.below mem_stays HBOF.out
            have hmF := hmO.move (fun h => h) hk8 fun g hg => hmO.off hr8 (by decide) hg
            have hbF : Below w.heap.size w (wF.setCell ⟨wO.heap.size, 0, none⟩ (.slice va (r.names.filter fun n => !eqT n a).length cap)) := (HBWF.out).trans (hk8.below HBWF.out.size fun j hj => by have := HBO.out.size; have := (HBL.out _ HBO.out).size; omega)
            have HGF := Lib.hid (hk8.row (HQ1.out wF HBWF0.out) (by have := HSZ.out; have := HBO.out.size; omega))
            have HMF := Lib.hid hmF; have HNF := Lib.hid (hnF.mono str_stays (show w.heap.size ≤ wQ.heap.size from HWQ.out)); have HBFF := Lib.hid hbF
            have HOS : Hid ((#[.slice va (r.names.filter fun n => !eqT n a).length cap, .slice ma2 mn mc2] : Array Value).all (·.oneCell') = true) := Lib.hid (by kernel_rfl)
            have HROWF := Lib.hid (setRow_heap _ _ _ #[.slice va (r.names.filter fun n => !eqT n a).length cap, .slice ma2 mn mc2] _ _ HGF.out)
            clear hr8 hk8 hr9 hmF hmO hnF hbF
            go_wp2_with (refine wpList_store_box rfl 25 _ _ rfl (w.heap.size + 1) 25 _ #[.slice va (r.names.filter fun n => !eqT n a).length cap, .slice ma2 mn mc2] rfl rfl HGF.out HI.out rfl HOS.out ?_)
            refine bodyPost_ret (results_box_tmp rfl _ _ (w.heap.size + 1) _ _ (0, 0) _ rfl HROWF.out Try.underlying25 rfl HI.out) rfl ?_
            rw [HF.out]
            exact outR_yes (c := 0) HBFF.out (Nat.le_succ _) HGF.out HNF.out HMF.out
end Go.Proofs.Ytekhkmhpeefenaa
