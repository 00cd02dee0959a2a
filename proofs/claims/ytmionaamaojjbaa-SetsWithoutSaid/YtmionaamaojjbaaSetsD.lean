/-
  Sets: With, Without, Both, Common: the program's, by contract.
-/
import Derived.Test.YtmionaamaojjbaaSetsC
import Derived.Test.YtmionaamaojjbaaCellNew
namespace Go.Proofs.Ytmionaamaojjbaa
open Go.RowKit

theorem length_pick_le {ws : List Nat} {ps : List (Int × Nat)} {k : Nat} : (pick ws (ps.take k)).length ≤ k := Nat.le_trans (length_pick _ _) (List.length_take_le _ _)
theorem pcs_get0 (ps : List (Int × Nat)) (k : Nat) (h : k < ps.length) (h2 : k * 2 < (pcs ps).length) : (pcs ps)[k * 2] = .int .i64 (ps[k]).1 := by
  induction ps generalizing k with
  | nil => simp at h
  | cons p r ih =>
    cases k with
    | zero => rfl
    | succ k =>
      have h3 : k < r.length := by simpa using h
      have := ih k h3 (by rw [length_pcs]; omega)
      simp only [pcs, List.flatMap_cons, List.getElem_cons_succ] at *
      rw [List.getElem_append_right (by simp [pcell]; omega)]
      simp only [pcell, List.length_cons, List.length_nil]
      rw [← this]
      congr 1
      omega
theorem pcs_get1 (ps : List (Int × Nat)) (k : Nat) (h : k < ps.length) (h2 : k * 2 + 1 < (pcs ps).length) : (pcs ps)[k * 2 + 1] = .int .u64 ((ps[k]).2 : Int) := by
  induction ps generalizing k with
  | nil => simp at h
  | cons p r ih =>
    cases k with
    | zero => rfl
    | succ k =>
      have h3 : k < r.length := by simpa using h
      have := ih k h3 (by rw [length_pcs]; omega)
      simp only [pcs, List.flatMap_cons, List.getElem_cons_succ] at *
      rw [List.getElem_append_right (by simp [pcell]; omega)]
      simp only [pcell, List.length_cons, List.length_nil]
      rw [← this]
      congr 1
      omega
theorem pick_take_in {ws : List Nat} {ps : List (Int × Nat)} {k : Nat} (h : k < ps.length) (hm : decide (ps[k].2 ∈ ws) = true) : pick ws (ps.take (k + 1)) = pick ws (ps.take k) ++ [ps[k].1] := by
  rw [List.take_succ_eq_append_getElem h, pick_snoc, if_pos (by simpa using hm)]
theorem pick_take_out {ws : List Nat} {ps : List (Int × Nat)} {k : Nat} (h : k < ps.length) (hm : decide (ps[k].2 ∈ ws) = false) : pick ws (ps.take (k + 1)) = pick ws (ps.take k) := by
  rw [List.take_succ_eq_append_getElem h, pick_snoc, if_neg (by simpa using hm), List.append_nil]

set_option maxHeartbeats 1000000 in
theorem numbers_any (a aw : Option Addr) (n c nw cw B : Nat) (ps : List (Int × Nat)) (ws : List Nat) (w : World) (hl : ps.length = n) (hr : Rd w B a (pcs ps)) (hB : B ≤ w.heap.size) (hlw : ws.length = nw) (hrw : Rd w B aw (cu ws)) (hn : n ≤ 1000) (hnw : nw ≤ 10) :
    Calls Try.prog 32 #[.slice a n c, .slice aw nw cw] w fun e w' => ∃ o, e = .returned o ∧ w'.ownsRow w.heap.size 3 1 o (pick ws ps).length (ci (pick ws ps)) ∧ Below w.heap.size w w' := by
  obtain ⟨i0, hi, hz0, hz1, hz2⟩ := info_parts info_num
  have HL := Lib.hid hl; clear hl
  have HLW := Lib.hid hlw; clear hlw
  go_enter Try.func32, Try.ntmps32
  go_wp2
  go_loopw [5, 9] (fun o i wr => ∃ (k : Nat) (o' : Value), o' = o ∧ k ≤ n ∧ i = .int .i64 k ∧ wr.ownsRow w.heap.size 3 1 o' (pick ws (ps.take k)).length (ci (pick ws (ps.take k))) ∧ Below w.heap.size w wr) (fun _ i _ => n - (intOf i).toNat)
  case atStart => exact ⟨0, _, rfl, Nat.zero_le _, rfl, World.ownsRow_nil _ _ _ _, Below.refl _ _⟩
  case round =>
    obtain ⟨k, o', rfl, hk, rfl, hown, hb⟩ := hrel
    by_cases hlt : k < n
    · obtain ⟨b, o, rfl, hB1, hc⟩ := hr.pos (by rw [length_pcs, HL.out]; omega)
      have hk1 := (hb.cell (p := ⟨b, o + k * 2, none⟩) (Nat.lt_of_lt_of_le hB1 hB)).trans (hc (k * 2) (by rw [length_pcs, HL.out]; omega))
      have hk2 := (hb.cell (p := ⟨b, o + (k * 2 + 1), none⟩) (Nat.lt_of_lt_of_le hB1 hB)).trans (hc (k * 2 + 1) (by rw [length_pcs, HL.out]; omega))
      have lk : k < ps.length := by rw [HL.out]; exact hlt
      rw [pcs_get0 ps k lk] at hk1
      rw [pcs_get1 ps k lk, ← Nat.add_assoc] at hk2
      clear hc
      have hin := fun h => pick_take_in (ws := ws) lk h
      have hout := fun h => pick_take_out (ws := ws) lk h
      have hpl := length_pick_le (ws := ws) (ps := ps) (k := k)
      have hrw' := hrw.below hb hB
      generalize ps[k] = f at *
      obtain ⟨x, m⟩ := f
      simp only at *
      have k0 : (0 : Int) ≤ (k : Int) := by omega
      have k1 : (k : Int) < (n : Int) := by omega
      by_cases hm : decide (m ∈ ws) = true
      · have HIN := Lib.hid (hin hm)
        have HM := Lib.hid hm
        clear hin hout hm
        go_wp2_with fail
        refine (contains_marks aw nw cw B ws m _ HLW.out hrw' (by unfold maxLen; omega)).mono ?_
        rintro e w' ⟨rfl, rfl⟩
        rw [HM.out]
        go_wp2_with (at_builtin; refine wpList_append_own _ rfl _ _ 24 rfl w.heap.size 3 i0 (.int .i64 0) 1 8 Try.underlying24 hi hz0 hz1 hz2 rfl (by decide) _ _ _ rfl (hown.alloc _) ⟨_, 0, none⟩ 1 1 [.int .i64 x] rfl rfl ?c1 ?c2 ?c3 ?c4 ?c5 ?_)
        case c1 => exact cell_one _ _ _
        case c2 => intro u hu; simp at hu; subst hu; rfl
        case c3 => unfold maxLen; omega
        case c4 => omega
        case c5 => have := hb.size; simp; omega
        intro o3 w3 hown3 hgrow _
        have hb3 := (hb.alloc hb.size (.cells #[.int .i64 x] 3)).grown hgrow (by have := hb.size; simp; omega) (fun j hj => (hown.lt j hj).1)
        have hown4 : w3.ownsRow w.heap.size 3 1 o3 (pick ws (ps.take (k + 1))).length (ci (pick ws (ps.take (k + 1)))) := by
          rw [HIN.out, ci_append, List.length_append]; exact hown3
        clear hown3
        go_wp2
        go_roundw
        case rel => exact ⟨k + 1, _, rfl, by omega, by go_num, hown4, hb3⟩
        case measure => simp [intOf]; omega
      · have hm : decide (m ∈ ws) = false := by simpa using hm
        have HOUT := Lib.hid (hout hm)
        have HM := Lib.hid hm
        clear hin hout hm
        go_wp2_with fail
        refine (contains_marks aw nw cw B ws m _ HLW.out hrw' (by unfold maxLen; omega)).mono ?_
        rintro e w' ⟨rfl, rfl⟩
        rw [HM.out]
        go_wp2
        go_roundw
        case rel => exact ⟨k + 1, _, rfl, by omega, by go_num, by rw [HOUT.out]; exact hown, hb⟩
        case measure => simp [intOf]; omega
    · have hpe : ps.take k = ps := List.take_of_length_le (by rw [HL.out]; omega)
      rw [hpe] at hown
      clear hpe
      go_wp2
      go_ret
      exact ⟨_, rfl, hown, hb⟩

/-- What a row of the call's own reads as, elements of any size. -/
theorem rd_own {w : World} {base : Nat} {e : TypeId} {size : Nat} {v : Value} {n : Nat} {xs : List Value} (h : w.ownsRow base e size v n xs) : ∃ a cap, v = .slice a n cap ∧ Rd w w.heap.size a xs := by
  have hl := h.1
  rcases h.2 with ⟨rfl, rfl⟩ | ⟨g, cap, cur, rfl, hb, hg, hc, hm, hs, ht⟩
  · exact ⟨none, 0, rfl, .inl (List.eq_nil_of_length_eq_zero (by omega))⟩
  · refine ⟨_, cap, rfl, .inr ⟨g, 0, rfl, lt_of_some hg, fun i hi => ?_⟩⟩
    rw [cell_of_row w g (0 + i) cur e (0, 0) hg]
    have hi2 : i < cur.toList.length := by
      rw [← ht, List.length_take] at hi; omega
    subst ht
    simp at hi hi2
    simp [Array.getElem?_eq_getElem hi2]

theorem rd_pair (w : World) (x y : Value) (t : TypeId) : Rd (w.alloc (.cells #[x, y] t)) (w.heap.size + 1) (some ⟨w.heap.size, 0, none⟩) [x, y] := by
  have h := Rd.row (off := 0) (n := 2) (L := [x, y]) (heap_alloc_new w (.cells #[x, y] t)) (Nat.lt_succ_self _) (by simp)
  exact h
/-- A set and a code. -/
def SetPost (E : Int) (V : List Int) (w : World) (e : Ending) (w' : World) : Prop :=
  ∃ o, e = .returned (.tuple #[o, .int .i64 E]) ∧ w'.ownsRow w.heap.size 3 1 o V.length (ci V) ∧ Below w.heap.size w w'
theorem setPost_none {E : Int} {V : List Int} {w w' : World} (hV : V = []) (hb : Below w.heap.size w w') (E' : Int) (hE : E' = E) : SetPost E V w (.returned (.tuple #[.slice none 0 0, .int .i64 E'])) w' := by
  subst hV
  subst hE
  exact ⟨_, rfl, World.ownsRow_nil _ _ _ _, hb⟩
theorem SetPost.under {E : Int} {V : List Int} {w w1 w' : World} {e : Ending} (h : SetPost E V w1 e w') (hb : Below w.heap.size w w1) : SetPost E V w e w' := by
  obtain ⟨o, he, ho, hb2⟩ := h
  exact ⟨o, he, World.ownsRow.mono ho hb.size, hb.trans (hb2.mono hb.size)⟩
theorem bothE_arg1 {a b : List Int} (h : isS a = false) : bothE a b = 1 := by simp [bothE, h]
theorem bothE_arg2 {a b : List Int} (h : isS b = false) : bothE a b = 1 := by simp [bothE, h]
theorem bothE_big {a b : List Int} (ha : isS a = true) (hb : isS b = true) (h : 16 < (mrg a b).length) : bothE a b = 2 := by
  rw [length_uni (isS_iff.1 ha).1 (isS_iff.1 hb).1] at h
  simp [bothE, ha, hb, h]
theorem bothE_ok {a b : List Int} (ha : isS a = true) (hb : isS b = true) (h : ¬ 16 < (mrg a b).length) : bothE a b = 0 := by
  rw [length_uni (isS_iff.1 ha).1 (isS_iff.1 hb).1] at h
  simp [bothE, ha, hb, h]
theorem bothV_no {a b : List Int} {E : Int} (h : bothE a b = E) (hE : E ≠ 0) : bothV a b = [] := by
  subst h; exact if_neg hE
theorem bothV_ok {a b : List Int} (ha : isS a = true) (hb : isS b = true) (h : bothE a b = 0) : bothV a b = pick [1, 2, 3] (mrg a b) := by
  rw [pick_all (isS_iff.1 ha).1 (isS_iff.1 hb).1]; exact if_pos h
theorem commonE_arg1 {a b : List Int} (h : isS a = false) : commonE a b = 1 := by simp [commonE, h]
theorem commonE_arg2 {a b : List Int} (h : isS b = false) : commonE a b = 1 := by simp [commonE, h]
theorem commonE_ok {a b : List Int} (ha : isS a = true) (hb : isS b = true) : commonE a b = 0 := by simp [commonE, ha, hb]
theorem commonV_no {a b : List Int} {E : Int} (h : commonE a b = E) (hE : E ≠ 0) : commonV a b = [] := by
  subst h; exact if_neg hE
theorem commonV_ok {a b : List Int} (ha : isS a = true) (hb : isS b = true) : commonV a b = pick [3] (mrg a b) := by
  rw [pick_both (isS_iff.1 ha).1 (isS_iff.1 hb).1]; exact if_pos (commonE_ok ha hb)

theorem rd_row (w : World) (L : List Value) (t : TypeId) {n : Nat} (hn : L.length = n) : Rd (w.alloc (.cells L.toArray t)) (w.heap.size + 1) (some ⟨w.heap.size, 0, none⟩) L := by
  have h := Rd.row (off := 0) (n := n) (L := L) (heap_alloc_new w (.cells L.toArray t)) (Nat.lt_succ_self _) (by omega)
  rwa [List.drop_zero, List.take_of_length_le (by omega)] at h

set_option maxHeartbeats 1000000 in
theorem both_any (a1 a2 : Option Addr) (n1 c1 n2 c2 B : Nat) (xs ys : List Int) (w : World) (h1 : xs.length = n1) (h2 : ys.length = n2) (r1 : Rd w B a1 (ci xs)) (r2 : Rd w B a2 (ci ys)) (hB : B ≤ w.heap.size) (hm1 : n1 ≤ maxLen) (hm2 : n2 ≤ maxLen) :
    Calls Try.prog 25 #[.slice a1 n1 c1, .slice a2 n2 c2] w (SetPost (bothE xs ys) (bothV xs ys) w) := by
  have H1 := Lib.hid h1; have H2 := Lib.hid h2
  clear h1 h2
  have M1 := Lib.hid hm1; have M2 := Lib.hid hm2
  clear hm1 hm2
  by_cases hx : isS xs = true
  · have HX := Lib.hid hx
    by_cases hy : isS ys = true
    · have HY := Lib.hid hy
      have hn1 : n1 ≤ 16 := by rw [← H1.out]; exact (isS_iff.1 hx).2
      have hn2 : n2 ≤ 16 := by rw [← H2.out]; exact (isS_iff.1 hy).2
      have hml := length_mrg xs ys
      rw [H1.out, H2.out] at hml
      clear hx hy
      go_enter Try.func25, Try.ntmps25
      go_wp2_with fail
      refine (is_any a1 n1 c1 B xs w H1.out r1 M1.out).mono ?_
      rintro e w1 ⟨rfl, hb1⟩
      rw [HX.out]
      go_wp2_with fail
      refine (is_any a2 n2 c2 B ys w1 H2.out (r2.below hb1 hB) M2.out).mono ?_
      rintro e w2 ⟨rfl, hb2⟩
      rw [HY.out]
      have hb := hb1.trans (hb2.mono hb1.size)
      have hrow := rd_pair w2 (.slice a1 n1 c1) (.slice a2 n2 c2) 24
      have hb3 := hb.alloc hb.size (.cells #[.slice a1 n1 c1, .slice a2 n2 c2] 24)
      go_wp2_with fail
      refine (merge_any _ a1 a2 _ n1 c1 n2 c2 (w2.heap.size + 1) xs ys _ H1.out H2.out hrow ((r1.below hb3 hB).more (by have := hb.size; omega)) ((r2.below hb3 hB).more (by have := hb.size; omega)) (by simp) hn1 hn2).mono ?_
      rintro e w4 ⟨o4, rfl, hown4, hb4⟩
      obtain ⟨a4, c4, rfl, hr4⟩ := rd_own hown4
      have hbz3 := hb3.size
      have hb34 := hb3.trans (hb4.mono hbz3)
      clear hown4 hrow hb4
      by_cases hbig : 16 < (mrg xs ys).length
      · have hE := bothE_big HX.out HY.out hbig
        have HV := Lib.hid (bothV_no hE (by decide))
        have HE := Lib.hid hE
        clear hE
        go_wp2
        go_ret2
        exact setPost_none HV.out hb34 _ HE.out.symm
      · have hE := bothE_ok HX.out HY.out hbig
        have HV := Lib.hid (bothV_ok HX.out HY.out hE)
        have HE := Lib.hid hE
        clear hE
        have hmark := rd_row w4 (cu [1, 2, 3]) 41 rfl
        have hb5 := hb34.alloc hb34.size (.cells (cu [1, 2, 3]).toArray 41)
        have hr5 := hr4.alloc (Nat.le_refl _) (.cells (cu [1, 2, 3]).toArray 41)
        go_wp2_with fail
        refine (numbers_any a4 _ _ c4 3 _ (w4.heap.size + 1) (mrg xs ys) [1, 2, 3] _ rfl (hr5.more (by omega)) (by simp) rfl hmark (by omega) (by omega)).mono ?_
        rintro e w6 ⟨o6, rfl, hown6, hb6⟩
        go_wp2
        go_ret2
        exact ⟨o6, by rw [HE.out]; rfl, by rw [HV.out]; exact World.ownsRow.mono hown6 hb5.size, hb5.trans (hb6.mono hb5.size)⟩
    · have hy : isS ys = false := by simpa using hy
      have HY := Lib.hid hy
      have hE := bothE_arg2 (a := xs) hy
      have HV := Lib.hid (bothV_no hE (by decide))
      have HE := Lib.hid hE
      clear hx hy hE
      go_enter Try.func25, Try.ntmps25
      go_wp2_with fail
      refine (is_any a1 n1 c1 B xs w H1.out r1 M1.out).mono ?_
      rintro e w1 ⟨rfl, hb1⟩
      rw [HX.out]
      go_wp2_with fail
      refine (is_any a2 n2 c2 B ys w1 H2.out (r2.below hb1 hB) M2.out).mono ?_
      rintro e w2 ⟨rfl, hb2⟩
      rw [HY.out]
      go_wp2
      go_ret2
      exact setPost_none HV.out (hb1.trans (hb2.mono hb1.size)) _ HE.out.symm
  · have hx : isS xs = false := by simpa using hx
    have HX := Lib.hid hx
    have hE := bothE_arg1 (b := ys) hx
    have HV := Lib.hid (bothV_no hE (by decide))
    have HE := Lib.hid hE
    clear hx hE
    go_enter Try.func25, Try.ntmps25
    go_wp2_with fail
    refine (is_any a1 n1 c1 B xs w H1.out r1 M1.out).mono ?_
    rintro e w1 ⟨rfl, hb1⟩
    rw [HX.out]
    go_wp2
    go_ret2
    exact setPost_none HV.out hb1 _ HE.out.symm

set_option maxHeartbeats 1000000 in
theorem common_any (a1 a2 : Option Addr) (n1 c1 n2 c2 B : Nat) (xs ys : List Int) (w : World) (h1 : xs.length = n1) (h2 : ys.length = n2) (r1 : Rd w B a1 (ci xs)) (r2 : Rd w B a2 (ci ys)) (hB : B ≤ w.heap.size) (hm1 : n1 ≤ maxLen) (hm2 : n2 ≤ maxLen) :
    Calls Try.prog 26 #[.slice a1 n1 c1, .slice a2 n2 c2] w (SetPost (commonE xs ys) (commonV xs ys) w) := by
  have H1 := Lib.hid h1; have H2 := Lib.hid h2
  clear h1 h2
  have M1 := Lib.hid hm1; have M2 := Lib.hid hm2
  clear hm1 hm2
  by_cases hx : isS xs = true
  · have HX := Lib.hid hx
    by_cases hy : isS ys = true
    · have HY := Lib.hid hy
      have hn1 : n1 ≤ 16 := by rw [← H1.out]; exact (isS_iff.1 hx).2
      have hn2 : n2 ≤ 16 := by rw [← H2.out]; exact (isS_iff.1 hy).2
      have hml := length_mrg xs ys
      rw [H1.out, H2.out] at hml
      clear hx hy
      go_enter Try.func26, Try.ntmps26
      go_wp2_with fail
      refine (is_any a1 n1 c1 B xs w H1.out r1 M1.out).mono ?_
      rintro e w1 ⟨rfl, hb1⟩
      rw [HX.out]
      go_wp2_with fail
      refine (is_any a2 n2 c2 B ys w1 H2.out (r2.below hb1 hB) M2.out).mono ?_
      rintro e w2 ⟨rfl, hb2⟩
      rw [HY.out]
      have hb := hb1.trans (hb2.mono hb1.size)
      have hrow := rd_pair w2 (.slice a1 n1 c1) (.slice a2 n2 c2) 24
      have hb3 := hb.alloc hb.size (.cells #[.slice a1 n1 c1, .slice a2 n2 c2] 24)
      go_wp2_with fail
      refine (merge_any _ a1 a2 _ n1 c1 n2 c2 (w2.heap.size + 1) xs ys _ H1.out H2.out hrow ((r1.below hb3 hB).more (by have := hb.size; omega)) ((r2.below hb3 hB).more (by have := hb.size; omega)) (by simp) hn1 hn2).mono ?_
      rintro e w4 ⟨o4, rfl, hown4, hb4⟩
      obtain ⟨a4, c4, rfl, hr4⟩ := rd_own hown4
      have hbz3 := hb3.size
      have hb34 := hb3.trans (hb4.mono hbz3)
      clear hown4 hrow hb4
      have HV := Lib.hid (commonV_ok HX.out HY.out)
      have HE := Lib.hid (commonE_ok HX.out HY.out)
      have hmark := rd_row w4 (cu [3]) 41 rfl
      have hb5 := hb34.alloc hb34.size (.cells (cu [3]).toArray 41)
      have hr5 := hr4.alloc (Nat.le_refl _) (.cells (cu [3]).toArray 41)
      go_wp2_with fail
      refine (numbers_any a4 _ _ c4 1 _ (w4.heap.size + 1) (mrg xs ys) [3] _ rfl (hr5.more (by omega)) (by simp) rfl hmark (by omega) (by omega)).mono ?_
      rintro e w6 ⟨o6, rfl, hown6, hb6⟩
      go_wp2
      go_ret2
      exact ⟨o6, by rw [HE.out]; rfl, by rw [HV.out]; exact World.ownsRow.mono hown6 hb5.size, hb5.trans (hb6.mono hb5.size)⟩
    · have hy : isS ys = false := by simpa using hy
      have HY := Lib.hid hy
      have hE := commonE_arg2 (a := xs) hy
      have HV := Lib.hid (commonV_no hE (by decide))
      have HE := Lib.hid hE
      clear hx hy hE
      go_enter Try.func26, Try.ntmps26
      go_wp2_with fail
      refine (is_any a1 n1 c1 B xs w H1.out r1 M1.out).mono ?_
      rintro e w1 ⟨rfl, hb1⟩
      rw [HX.out]
      go_wp2_with fail
      refine (is_any a2 n2 c2 B ys w1 H2.out (r2.below hb1 hB) M2.out).mono ?_
      rintro e w2 ⟨rfl, hb2⟩
      rw [HY.out]
      go_wp2
      go_ret2
      exact setPost_none HV.out (hb1.trans (hb2.mono hb1.size)) _ HE.out.symm
  · have hx : isS xs = false := by simpa using hx
    have HX := Lib.hid hx
    have hE := commonE_arg1 (b := ys) hx
    have HV := Lib.hid (commonV_no hE (by decide))
    have HE := Lib.hid hE
    clear hx hE
    go_enter Try.func26, Try.ntmps26
    go_wp2_with fail
    refine (is_any a1 n1 c1 B xs w H1.out r1 M1.out).mono ?_
    rintro e w1 ⟨rfl, hb1⟩
    rw [HX.out]
    go_wp2
    go_ret2
    exact setPost_none HV.out hb1 _ HE.out.symm

set_option maxHeartbeats 1000000 in
theorem with_any (a1 : Option Addr) (n1 c1 B : Nat) (xs : List Int) (n : Int) (w : World) (h1 : xs.length = n1) (r1 : Rd w B a1 (ci xs)) (hB : B ≤ w.heap.size) (hm1 : n1 ≤ maxLen) :
    Calls Try.prog 17 #[.slice a1 n1 c1, .int .i64 n] w (SetPost (withE xs n) (withV xs n) w) := by
  rw [← withE_both, ← withV_both]
  have hrow := rd_row w (ci [n]) 3 rfl
  have hb := (Below.refl w.heap.size w).alloc (Nat.le_refl _) (.cells (ci [n]).toArray 3)
  have hc := both_any a1 (some ⟨w.heap.size, 0, none⟩) n1 c1 1 1 (w.heap.size + 1) xs [n] _ h1 rfl ((r1.below hb hB).more (by omega)) hrow (by simp) hm1 (by unfold maxLen; omega)
  have HC := Lib.hid hc; clear hc h1 hrow
  go_enter Try.func17, Try.ntmps17
  go_wp2_with fail
  refine HC.out.mono ?_
  rintro e w1 ⟨o, rfl, hown, hb1⟩
  go_wp2
  go_ret2
  exact ⟨o, rfl, World.ownsRow.mono hown hb.size, hb.trans (hb1.mono hb.size)⟩

theorem withoutV_ok {s : List Int} {n : Int} (h : isS s = true) : withoutV s n = pick [1] (mrg s [n]) := by
  rw [pick_first (isS_iff.1 h).1]; exact if_pos h
theorem withoutV_no {s : List Int} {n : Int} (h : isS s = false) : withoutV s n = [] := by simp [withoutV, h]
theorem withoutE_ok {s : List Int} (h : isS s = true) : withoutE s = 0 := by simp [withoutE, h]
theorem withoutE_no {s : List Int} (h : isS s = false) : withoutE s = 1 := by simp [withoutE, h]

set_option maxHeartbeats 1000000 in
theorem without_any (a1 : Option Addr) (n1 c1 B : Nat) (xs : List Int) (n : Int) (w : World) (h1 : xs.length = n1) (r1 : Rd w B a1 (ci xs)) (hB : B ≤ w.heap.size) (hm1 : n1 ≤ maxLen) :
    Calls Try.prog 22 #[.slice a1 n1 c1, .int .i64 n] w (SetPost (withoutE xs) (withoutV xs n) w) := by
  have H1 := Lib.hid h1
  clear h1
  have M1 := Lib.hid hm1
  clear hm1
  by_cases hx : isS xs = true
  · have HX := Lib.hid hx
    have hn1 : n1 ≤ 16 := by rw [← H1.out]; exact (isS_iff.1 hx).2
    have hml := length_mrg xs [n]
    rw [H1.out, List.length_singleton] at hml
    have HV := Lib.hid (withoutV_ok (n := n) hx)
    have HE := Lib.hid (withoutE_ok hx)
    clear hx
    go_enter Try.func22, Try.ntmps22
    go_wp2_with fail
    refine (is_any a1 n1 c1 B xs w H1.out r1 M1.out).mono ?_
    rintro e w1 ⟨rfl, hb1⟩
    rw [HX.out]
    have hone := rd_row w1 (ci [n]) 3 rfl
    have hb2 := hb1.alloc hb1.size (.cells (ci [n]).toArray 3)
    have hrow := rd_pair (w1.alloc (.cells (ci [n]).toArray 3)) (.slice a1 n1 c1) (.slice (some ⟨w1.heap.size, 0, none⟩) 1 1) 24
    have hone3 := hone.alloc (by simp) (.cells #[.slice a1 n1 c1, .slice (some ⟨w1.heap.size, 0, none⟩) 1 1] 24)
    have hb3 := hb2.alloc hb2.size (.cells #[.slice a1 n1 c1, .slice (some ⟨w1.heap.size, 0, none⟩) 1 1] 24)
    rw [World.size_alloc] at hrow
    go_wp2_with fail
    refine (merge_any _ a1 _ _ n1 c1 1 1 (w1.heap.size + 1 + 1) xs [n] _ H1.out rfl hrow ((r1.below hb3 hB).more (by have := hb1.size; omega)) (hone3.more (by omega)) (by simp) hn1 (by omega)).mono ?_
    rintro e w4 ⟨o4, rfl, hown4, hb4⟩
    obtain ⟨a4, c4, rfl, hr4⟩ := rd_own hown4
    have hbz3 := hb3.size
    have hb34 := hb3.trans (hb4.mono hbz3)
    clear hown4 hrow hb4 hone hone3
    have hmark := rd_row w4 (cu [1]) 41 rfl
    have hb5 := hb34.alloc hb34.size (.cells (cu [1]).toArray 41)
    have hr5 := hr4.alloc (Nat.le_refl _) (.cells (cu [1]).toArray 41)
    go_wp2_with fail
    refine (numbers_any a4 _ _ c4 1 _ (w4.heap.size + 1) (mrg xs [n]) [1] _ rfl (hr5.more (by omega)) (by simp) rfl hmark (by omega) (by omega)).mono ?_
    rintro e w6 ⟨o6, rfl, hown6, hb6⟩
    go_wp2
    go_ret2
    exact ⟨o6, by rw [HE.out]; rfl, by rw [HV.out]; exact World.ownsRow.mono hown6 hb5.size, hb5.trans (hb6.mono hb5.size)⟩
  · have hx : isS xs = false := by simpa using hx
    have HX := Lib.hid hx
    have HV := Lib.hid (withoutV_no (n := n) hx)
    have HE := Lib.hid (withoutE_no hx)
    clear hx
    go_enter Try.func22, Try.ntmps22
    go_wp2_with fail
    refine (is_any a1 n1 c1 B xs w H1.out r1 M1.out).mono ?_
    rintro e w1 ⟨rfl, hb1⟩
    rw [HX.out]
    go_wp2
    go_ret2
    exact setPost_none HV.out hb1 _ HE.out.symm
end Go.Proofs.Ytmionaamaojjbaa
