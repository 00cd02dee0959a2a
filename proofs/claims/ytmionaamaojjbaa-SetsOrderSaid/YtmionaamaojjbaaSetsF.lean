/-
  The document's answer for layer 4, by contract: With, Without, Both, Common.
-/
import Derived.Test.YtmionaamaojjbaaSetsE
namespace Go.Proofs.Ytmionaamaojjbaa
open Go.RowKit

theorem withE_no {s : List Int} {n : Int} (h : isS s = false) : withE s n = 1 := by simp [withE, h]
theorem withE_big {s : List Int} {n : Int} (h : isS s = true) (h2 : 16 < (ins n s).length) : withE s n = 2 := by simp [withE, h, h2]
theorem withE_ok {s : List Int} {n : Int} (h : isS s = true) (h2 : ¬ 16 < (ins n s).length) : withE s n = 0 := by simp [withE, h, h2]
theorem withV_no {s : List Int} {n E : Int} (h : withE s n = E) (hE : E ≠ 0) : withV s n = [] := by subst h; exact if_neg hE
theorem withV_ok {s : List Int} {n : Int} (h : withE s n = 0) : withV s n = ins n s := if_pos h

set_option maxHeartbeats 1000000 in
theorem ref_with_any (a1 : Option Addr) (n1 c1 B : Nat) (xs : List Int) (n : Int) (w : World) (h1 : xs.length = n1) (r1 : Rd w B a1 (ci xs)) (hB : B ≤ w.heap.size) (hm1 : n1 ≤ maxLen) :
    Calls Try.prog 18 #[.slice a1 n1 c1, .int .i64 n] w (SetPost (withE xs n) (withV xs n) w) := by
  have H1 := Lib.hid h1
  clear h1
  have M1 := Lib.hid hm1
  clear hm1
  by_cases hx : isS xs = true
  · have HX := Lib.hid hx
    have hn1 : n1 ≤ 16 := by rw [← H1.out]; exact (isS_iff.1 hx).2
    have HUP := Lib.hid (isS_iff.1 hx).1
    have hbigE := fun h => withE_big (n := n) hx h
    have hokE := fun h => withE_ok (n := n) hx h
    clear hx
    by_cases hbig : 16 < (ins n xs).length
    · have hE := hbigE hbig
      have HV := Lib.hid (withV_no hE (by decide))
      have HE := Lib.hid hE
      clear hE hbigE hokE
      go_enter Try.func18, Try.ntmps18
      go_wp2_with fail
      refine (ref_is_any a1 n1 c1 B xs w H1.out r1 M1.out).mono ?_
      rintro e w1 ⟨rfl, hb1⟩
      rw [HX.out]
      go_wp2_with fail
      refine (ref_put_any a1 n1 c1 B xs n w1 HUP.out H1.out (r1.below hb1 hB) (Nat.le_trans hB hb1.size) (by omega)).mono ?_
      rintro e w2 ⟨o2, rfl, hown2, hb2⟩
      obtain ⟨a2, c2, rfl⟩ := own_len hown2
      go_wp2
      go_ret2
      exact setPost_none HV.out (hb1.trans (hb2.mono hb1.size)) _ HE.out.symm
    · have hE := hokE hbig
      have HV := Lib.hid (withV_ok hE)
      have HE := Lib.hid hE
      clear hE hbigE hokE
      go_enter Try.func18, Try.ntmps18
      go_wp2_with fail
      refine (ref_is_any a1 n1 c1 B xs w H1.out r1 M1.out).mono ?_
      rintro e w1 ⟨rfl, hb1⟩
      rw [HX.out]
      go_wp2_with fail
      refine (ref_put_any a1 n1 c1 B xs n w1 HUP.out H1.out (r1.below hb1 hB) (Nat.le_trans hB hb1.size) (by omega)).mono ?_
      rintro e w2 ⟨o2, rfl, hown2, hb2⟩
      obtain ⟨a2, c2, rfl⟩ := own_len hown2
      go_wp2
      go_ret2
      exact ⟨_, by rw [HE.out]; rfl, by rw [HV.out]; exact World.ownsRow.mono hown2 hb1.size, hb1.trans (hb2.mono hb1.size)⟩
  · have hx : isS xs = false := by simpa using hx
    have HX := Lib.hid hx
    have hE := withE_no (n := n) hx
    have HV := Lib.hid (withV_no hE (by decide))
    have HE := Lib.hid hE
    clear hx hE
    go_enter Try.func18, Try.ntmps18
    go_wp2_with fail
    refine (ref_is_any a1 n1 c1 B xs w H1.out r1 M1.out).mono ?_
    rintro e w1 ⟨rfl, hb1⟩
    rw [HX.out]
    go_wp2
    go_ret2
    exact setPost_none HV.out hb1 _ HE.out.symm

theorem withoutV_dif {s : List Int} {n : Int} (h : isS s = true) : withoutV s n = dif s n := if_pos h

set_option maxHeartbeats 1000000 in
theorem ref_without_any (a1 : Option Addr) (n1 c1 B : Nat) (xs : List Int) (n : Int) (w : World) (h1 : xs.length = n1) (r1 : Rd w B a1 (ci xs)) (hB : B ≤ w.heap.size) (hm1 : n1 ≤ maxLen) :
    Calls Try.prog 23 #[.slice a1 n1 c1, .int .i64 n] w (SetPost (withoutE xs) (withoutV xs n) w) := by
  have H1 := Lib.hid h1
  clear h1
  have M1 := Lib.hid hm1
  clear hm1
  by_cases hx : isS xs = true
  · have HX := Lib.hid hx
    have hn1 : n1 ≤ 16 := by rw [← H1.out]; exact (isS_iff.1 hx).2
    have HV := Lib.hid (withoutV_dif (n := n) hx)
    have HE := Lib.hid (withoutE_ok hx)
    clear hx
    go_enter Try.func23, Try.ntmps23
    go_wp2_with fail
    refine (ref_is_any a1 n1 c1 B xs w H1.out r1 M1.out).mono ?_
    rintro e w1 ⟨rfl, hb1⟩
    rw [HX.out]
    go_wp2_with fail
    refine (ref_drop_any a1 n1 c1 B xs n w1 H1.out (r1.below hb1 hB) (Nat.le_trans hB hb1.size) (by omega)).mono ?_
    rintro e w2 ⟨o2, rfl, hown2, hb2⟩
    go_wp2
    go_ret2
    exact ⟨_, by rw [HE.out]; rfl, by rw [HV.out]; exact World.ownsRow.mono hown2 hb1.size, hb1.trans (hb2.mono hb1.size)⟩
  · have hx : isS xs = false := by simpa using hx
    have HX := Lib.hid hx
    have HV := Lib.hid (withoutV_no (n := n) hx)
    have HE := Lib.hid (withoutE_no hx)
    clear hx
    go_enter Try.func23, Try.ntmps23
    go_wp2_with fail
    refine (ref_is_any a1 n1 c1 B xs w H1.out r1 M1.out).mono ?_
    rintro e w1 ⟨rfl, hb1⟩
    rw [HX.out]
    go_wp2
    go_ret2
    exact setPost_none HV.out hb1 _ HE.out.symm

theorem bothV_uni {a b : List Int} (h : bothE a b = 0) : bothV a b = uni a b := if_pos h
theorem commonV_com {a b : List Int} (ha : isS a = true) (hb : isS b = true) : commonV a b = com a b := if_pos (commonE_ok ha hb)
theorem bothE_ubig {a b : List Int} (ha : isS a = true) (hb : isS b = true) (h : 16 < (uni a b).length) : bothE a b = 2 := by simp [bothE, ha, hb, h]
theorem bothE_uok {a b : List Int} (ha : isS a = true) (hb : isS b = true) (h : ¬ 16 < (uni a b).length) : bothE a b = 0 := by simp [bothE, ha, hb, h]
theorem uni_take_succ {a b : List Int} {k : Nat} (h : k < b.length) : uni a (b.take (k + 1)) = ins b[k] (uni a (b.take k)) := by
  rw [List.take_succ_eq_append_getElem h, uni_snoc]
theorem length_uni_le : ∀ (b a : List Int), (uni a b).length ≤ a.length + b.length
  | [], a => by simp [uni]
  | y :: b, a => by
    have h1 := length_uni_le b (ins y a)
    have h2 := length_ins_le (n := y) a
    have e : uni a (y :: b) = uni (ins y a) b := rfl
    rw [e, List.length_cons]
    omega

set_option maxHeartbeats 2000000 in
theorem ref_both_any (a1 a2 : Option Addr) (n1 c1 n2 c2 B : Nat) (xs ys : List Int) (w : World) (h1 : xs.length = n1) (h2 : ys.length = n2) (r1 : Rd w B a1 (ci xs)) (r2 : Rd w B a2 (ci ys)) (hB : B ≤ w.heap.size) (hm1 : n1 ≤ maxLen) (hm2 : n2 ≤ maxLen) :
    Calls Try.prog 27 #[.slice a1 n1 c1, .slice a2 n2 c2] w (SetPost (bothE xs ys) (bothV xs ys) w) := by
  obtain ⟨i0, hi, hz0, hz1, hz2⟩ := info_parts info_num
  have H1 := Lib.hid h1; have H2 := Lib.hid h2
  clear h1 h2
  have M1 := Lib.hid hm1; have M2 := Lib.hid hm2
  clear hm1 hm2
  by_cases hx : isS xs = true
  · have HX := Lib.hid hx
    by_cases hy : isS ys = true
    · have HY := Lib.hid hy
      have hn1 : n1 ≤ 16 := by rw [← H1.out]; exact (isS_iff.1 hx).2
      have hn2 : n2 ≤ 16 := by rw [← H2.out]; exact (isS_iff.1 hy).2
      have HUP := Lib.hid (isS_iff.1 hx).1
      clear hx hy
      go_enter Try.func27, Try.ntmps27
      go_wp2_with fail
      refine (ref_is_any a1 n1 c1 B xs w H1.out r1 M1.out).mono ?_
      rintro e w1 ⟨rfl, hb1⟩
      rw [HX.out]
      go_wp2_with fail
      refine (ref_is_any a2 n2 c2 B ys w1 H2.out (r2.below hb1 hB) M2.out).mono ?_
      rintro e w2 ⟨rfl, hb2⟩
      rw [HY.out]
      have hb := hb1.trans (hb2.mono hb1.size)
      clear hb1 hb2
      go_wp2_with (at_builtin; refine wpList_append_rd rfl _ _ 24 rfl w.heap.size 3 i0 (.int .i64 0) 8 Try.underlying24 hi hz0 hz1 hz2 rfl _ 0 [] rfl (World.ownsRow_nil _ _ _ _) B _ n1 c1 (ci xs) rfl (r1.below hb hB) ?c1 (ci_one _) ?c2 ?c3 hb.size ?_)
      case c1 => rw [length_ci, H1.out]
      case c2 => unfold maxLen; omega
      case c3 => omega
      intro o3 w3 hown3 hgrow
      have hb3 := hb.grown hgrow hb.size (fun j hj => by cases hj)
      have hown4 : w3.ownsRow w.heap.size 3 1 o3 (uni xs (ys.take 0)).length (ci (uni xs (ys.take 0))) := by
        have e : uni xs (ys.take 0) = xs := rfl
        rw [e, H1.out]; simpa using hown3
      clear hown3 hgrow
      go_wp2_with fail
      go_loopw [6, 7] (fun o i wr => ∃ (k : Nat) (o' : Value), o' = o ∧ k ≤ n2 ∧ i = .int .i64 k ∧ wr.ownsRow w.heap.size 3 1 o' (uni xs (ys.take k)).length (ci (uni xs (ys.take k))) ∧ Below w.heap.size w wr) (fun _ i _ => n2 - (intOf i).toNat)
      case atStart => exact ⟨0, _, rfl, Nat.zero_le _, rfl, hown4, hb3⟩
      case round =>
        clear hown4 hb3
        obtain ⟨k, o', rfl, hk, rfl, hown, hbr⟩ := hrel
        have hul := length_uni_le (ys.take k) xs
        have htl := List.length_take_le k ys
        rw [H1.out] at hul
        by_cases hlt : k < n2
        · obtain ⟨bb, o, rfl, hB1, hc⟩ := r2.pos (by rw [length_ci, H2.out]; omega)
          have hck := (hbr.cell (p := ⟨bb, o + k, none⟩) (Nat.lt_of_lt_of_le hB1 hB)).trans (hc k (by rw [length_ci, H2.out]; omega))
          rw [ci_get] at hck
          clear hc
          have lk : k < ys.length := by rw [H2.out]; exact hlt
          have HST := Lib.hid (uni_take_succ (a := xs) lk)
          have k0 : (0 : Int) ≤ (k : Int) := by omega
          have k1 : (k : Int) < (n2 : Int) := by omega
          have HUK := Lib.hid (up_uni (b := ys.take k) HUP.out)
          obtain ⟨a5, c5, rfl, hr5⟩ := rd_own hown
          generalize ys[k] = x at *
          go_wp2_with fail
          refine (ref_put_any a5 _ c5 wr.heap.size (uni xs (ys.take k)) x wr HUK.out rfl hr5 (Nat.le_refl _) (by omega)).mono ?_
          rintro e w6 ⟨o6, rfl, hown6, hb6⟩
          rw [← HST.out] at hown6
          go_wp2
          go_roundw
          case rel => exact ⟨k + 1, _, rfl, by omega, by go_num, World.ownsRow.mono hown6 hbr.size, hbr.trans (hb6.mono hbr.size)⟩
          case measure => simp [intOf]; omega
        · have hpe : ys.take k = ys := List.take_of_length_le (by rw [H2.out]; omega)
          rw [hpe] at hown hul
          clear hpe
          obtain ⟨a5, c5, rfl⟩ := own_len hown
          by_cases hbig : 16 < (uni xs ys).length
          · have hE := bothE_ubig HX.out HY.out hbig
            have HV := Lib.hid (bothV_no hE (by decide))
            have HE := Lib.hid hE
            clear hE
            go_wp2
            go_ret2
            exact setPost_none HV.out hbr _ HE.out.symm
          · have hE := bothE_uok HX.out HY.out hbig
            have HV := Lib.hid (bothV_uni hE)
            have HE := Lib.hid hE
            clear hE
            go_wp2
            go_ret2
            exact ⟨_, by rw [HE.out]; rfl, by rw [HV.out]; exact hown, hbr⟩
    · have hy : isS ys = false := by simpa using hy
      have HY := Lib.hid hy
      have hE := bothE_arg2 (a := xs) hy
      have HV := Lib.hid (bothV_no hE (by decide))
      have HE := Lib.hid hE
      clear hx hy hE
      go_enter Try.func27, Try.ntmps27
      go_wp2_with fail
      refine (ref_is_any a1 n1 c1 B xs w H1.out r1 M1.out).mono ?_
      rintro e w1 ⟨rfl, hb1⟩
      rw [HX.out]
      go_wp2_with fail
      refine (ref_is_any a2 n2 c2 B ys w1 H2.out (r2.below hb1 hB) M2.out).mono ?_
      rintro e w2 ⟨rfl, hb2⟩
      rw [HY.out]
      go_wp2
      go_ret2
      exact setPost_none HV.out (hb1.trans (hb2.mono hb1.size)) _ HE.out.symm
  · have hx : isS xs = false := by simpa using hx
    have HX := Lib.hid hx
    have hE := bothE_arg1 (b := ys) hx
    have HV := Lib.hid (bothV_no hE (by decide))
    have HE := Lib.hid hE
    clear hx hE
    go_enter Try.func27, Try.ntmps27
    go_wp2_with fail
    refine (ref_is_any a1 n1 c1 B xs w H1.out r1 M1.out).mono ?_
    rintro e w1 ⟨rfl, hb1⟩
    rw [HX.out]
    go_wp2
    go_ret2
    exact setPost_none HV.out hb1 _ HE.out.symm

set_option maxHeartbeats 2000000 in
theorem ref_common_any (a1 a2 : Option Addr) (n1 c1 n2 c2 B : Nat) (xs ys : List Int) (w : World) (h1 : xs.length = n1) (h2 : ys.length = n2) (r1 : Rd w B a1 (ci xs)) (r2 : Rd w B a2 (ci ys)) (hB : B ≤ w.heap.size) (hm1 : n1 ≤ maxLen) (hm2 : n2 ≤ maxLen) :
    Calls Try.prog 28 #[.slice a1 n1 c1, .slice a2 n2 c2] w (SetPost (commonE xs ys) (commonV xs ys) w) := by
  obtain ⟨i0, hi, hz0, hz1, hz2⟩ := info_parts info_num
  have H1 := Lib.hid h1; have H2 := Lib.hid h2
  clear h1 h2
  have M1 := Lib.hid hm1; have M2 := Lib.hid hm2
  clear hm1 hm2
  by_cases hx : isS xs = true
  · have HX := Lib.hid hx
    by_cases hy : isS ys = true
    · have HY := Lib.hid hy
      have hn1 : n1 ≤ 16 := by rw [← H1.out]; exact (isS_iff.1 hx).2
      have HV := Lib.hid (commonV_com hx hy)
      have HE := Lib.hid (commonE_ok hx hy)
      clear hx hy
      go_enter Try.func28, Try.ntmps28
      go_wp2_with fail
      refine (ref_is_any a1 n1 c1 B xs w H1.out r1 M1.out).mono ?_
      rintro e w1 ⟨rfl, hb1⟩
      rw [HX.out]
      go_wp2_with fail
      refine (ref_is_any a2 n2 c2 B ys w1 H2.out (r2.below hb1 hB) M2.out).mono ?_
      rintro e w2 ⟨rfl, hb2⟩
      rw [HY.out]
      have hb := hb1.trans (hb2.mono hb1.size)
      clear hb1 hb2
      go_wp2_with fail
      go_loopw [6, 7] (fun o i wr => ∃ (k : Nat) (o' : Value), o' = o ∧ k ≤ n1 ∧ i = .int .i64 k ∧ wr.ownsRow w.heap.size 3 1 o' (com (xs.take k) ys).length (ci (com (xs.take k) ys)) ∧ Below w.heap.size w wr) (fun _ i _ => n1 - (intOf i).toNat)
      case atStart => exact ⟨0, _, rfl, Nat.zero_le _, rfl, World.ownsRow_nil _ _ _ _, hb⟩
      case round =>
        clear hb
        obtain ⟨k, o', rfl, hk, rfl, hown, hb⟩ := hrel
        by_cases hlt : k < n1
        · obtain ⟨bb, o, rfl, hB1, hc⟩ := r1.pos (by rw [length_ci, H1.out]; omega)
          have hck := (hb.cell (p := ⟨bb, o + k, none⟩) (Nat.lt_of_lt_of_le hB1 hB)).trans (hc k (by rw [length_ci, H1.out]; omega))
          rw [ci_get] at hck
          clear hc
          have lk : k < xs.length := by rw [H1.out]; exact hlt
          have hin := fun h => com_take_in (t := ys) lk h
          have hout := fun h => com_take_out (t := ys) lk h
          have hpl := length_com_le (s := xs) (t := ys) (k := k)
          have k0 : (0 : Int) ≤ (k : Int) := by omega
          have k1 : (k : Int) < (n1 : Int) := by omega
          have r2' := r2.below hb hB
          generalize xs[k] = x at *
          by_cases hm : decide (x ∈ ys) = true
          · have HIN := Lib.hid (hin hm)
            have HM := Lib.hid hm
            clear hin hout hm
            go_wp2_with fail
            refine (ref_has_any a2 n2 c2 B ys x _ H2.out r2' M2.out).mono ?_
            rintro e w' ⟨rfl, rfl⟩
            rw [HM.out]
            go_wp2_with (at_builtin; refine wpList_append_own _ rfl _ _ 24 rfl w.heap.size 3 i0 (.int .i64 0) 1 8 Try.underlying24 hi hz0 hz1 hz2 rfl (by decide) _ _ _ rfl (hown.alloc _) ⟨_, 0, none⟩ 1 1 [.int .i64 x] rfl rfl ?c1 ?c2 ?c3 ?c4 ?c5 ?_)
            case c1 => exact cell_one _ _ _
            case c2 => intro u hu; simp at hu; subst hu; rfl
            case c3 => unfold maxLen; omega
            case c4 => omega
            case c5 => have := hb.size; simp; omega
            intro o3 w3 hown3 hgrow _
            have hb3 := (hb.alloc hb.size (.cells #[.int .i64 x] 3)).grown hgrow (by have := hb.size; simp; omega) (fun j hj => (hown.lt j hj).1)
            have hown4 : w3.ownsRow w.heap.size 3 1 o3 (com (xs.take (k + 1)) ys).length (ci (com (xs.take (k + 1)) ys)) := by
              rw [HIN.out, ci_append, List.length_append]; exact hown3
            clear hown3
            go_wp2
            go_roundw
            case rel => exact ⟨k + 1, _, rfl, by omega, by go_num, hown4, hb3⟩
            case measure => simp [intOf]; omega
          · have hm : decide (x ∈ ys) = false := by simpa using hm
            have HOUT := Lib.hid (hout hm)
            have HM := Lib.hid hm
            clear hin hout hm
            go_wp2_with fail
            refine (ref_has_any a2 n2 c2 B ys x _ H2.out r2' M2.out).mono ?_
            rintro e w' ⟨rfl, rfl⟩
            rw [HM.out]
            go_wp2
            go_roundw
            case rel => exact ⟨k + 1, _, rfl, by omega, by go_num, by rw [HOUT.out]; exact hown, hb⟩
            case measure => simp [intOf]; omega
        · have hpe : xs.take k = xs := List.take_of_length_le (by rw [H1.out]; omega)
          rw [hpe] at hown
          clear hpe
          go_wp2
          go_ret2
          exact ⟨_, by rw [HE.out]; rfl, by rw [HV.out]; exact hown, hb⟩
    · have hy : isS ys = false := by simpa using hy
      have HY := Lib.hid hy
      have hE := commonE_arg2 (a := xs) hy
      have HV := Lib.hid (commonV_no hE (by decide))
      have HE := Lib.hid hE
      clear hx hy hE
      go_enter Try.func28, Try.ntmps28
      go_wp2_with fail
      refine (ref_is_any a1 n1 c1 B xs w H1.out r1 M1.out).mono ?_
      rintro e w1 ⟨rfl, hb1⟩
      rw [HX.out]
      go_wp2_with fail
      refine (ref_is_any a2 n2 c2 B ys w1 H2.out (r2.below hb1 hB) M2.out).mono ?_
      rintro e w2 ⟨rfl, hb2⟩
      rw [HY.out]
      go_wp2
      go_ret2
      exact setPost_none HV.out (hb1.trans (hb2.mono hb1.size)) _ HE.out.symm
  · have hx : isS xs = false := by simpa using hx
    have HX := Lib.hid hx
    have hE := commonE_arg1 (b := ys) hx
    have HV := Lib.hid (commonV_no hE (by decide))
    have HE := Lib.hid hE
    clear hx hE
    go_enter Try.func28, Try.ntmps28
    go_wp2_with fail
    refine (ref_is_any a1 n1 c1 B xs w H1.out r1 M1.out).mono ?_
    rintro e w1 ⟨rfl, hb1⟩
    rw [HX.out]
    go_wp2
    go_ret2
    exact setPost_none HV.out hb1 _ HE.out.symm
end Go.Proofs.Ytmionaamaojjbaa
