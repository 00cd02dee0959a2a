/-
  Layer 7, the program, by contract: kindsOf.
-/
import Derived.Test.YtkghkioghkapcaaObpE
import Derived.Test.YtkghkioghkapcaaObjS
namespace Go.Proofs.Ytkghkioghkapcaa
open Go.RowKit Go.Sort Go.Shelf

theorem kinInfo : (Try.prog.info? 39).map (fun i => (i.zero, i.size, i.bytes)) = some (some (.int .i64 0), 1, 8) := by kernel_rfl
def kinP (x : List Value) (k : Int) : Prop := x = [.int .i64 k]
def kinQ : Elem Int := fun _ _ => kinP
theorem kin_stays : Stays kinQ 1 := ⟨fun h _ _ => h, fun h => by rw [show _ = _ from h]; rfl, fun h u hu => by rw [show _ = _ from h] at hu; simp at hu; subst hu; rfl⟩
/-- The kinds of the columns that are named; none, if one is named twice or is not there. -/
def kindsL (l : List Col) (ns : List ByteArray) : List Int := if (List.range ns.length).all (fitAt l ns) = true then ns.map fun s => kindAt l (colI l s) else []
/-- .. of the first k of them. -/
def kindsT (l : List Col) (ns : List ByteArray) (k : Nat) : List Int := (ns.take k).map fun s => kindAt l (colI l s)
theorem kindsT_len {l : List Col} {ns : List ByteArray} {k : Nat} (h : k ≤ ns.length) : (kindsT l ns k).length = k := by unfold kindsT; rw [List.length_map, List.length_take]; omega
theorem kindsT_succ {l : List Col} {ns : List ByteArray} {k : Nat} (h : k < ns.length) : kindsT l ns (k + 1) = kindsT l ns k ++ [kindAt l (colI l ns[k])] := by
  unfold kindsT
  rw [List.take_succ_eq_append_getElem h, List.map_append]; rfl
theorem kindsT_all {l : List Col} {ns : List ByteArray} {k : Nat} (h : ns.length ≤ k) : kindsT l ns k = ns.map fun s => kindAt l (colI l s) := by unfold kindsT; rw [List.take_of_length_le h]
def KindsPost (w : World) (ks : List Int) (e : Ending) (w' : World) : Prop := ∃ kv, e = .returned kv ∧ OwnX kinQ w' w.heap.size 39 1 kv ks ∧ Below w.heap.size w w'
theorem kinds_post {w w' : World} {v : Value} {ks ks' : List Int} (h : OwnX kinQ w' w.heap.size 39 1 v ks) (hb : Below w.heap.size w w') (e : ks' = ks) : KindsPost w ks' (.returned v) w' := ⟨v, rfl, e ▸ h, hb⟩

set_option maxRecDepth 100000 in
set_option maxHeartbeats 4000000 in
theorem prog_kinds_any (na : Option Addr) (nn nc B : Nat) (ns : List ByteArray) (ca : Option Addr) (cn cc : Nat) (l : List Col) (w : World) (hn : Lst w (· < B) strP 1 (.slice na nn nc) ns) (h : Lst w (· < B) colP 3 (.slice ca cn cc) l) (hB : B ≤ w.heap.size) (h3 : nn ≤ 3000) :
    Calls Try.prog 131 #[.slice na nn nc, .slice ca cn cc] w (KindsPost w (kindsL l ns)) := by
  obtain ⟨ik, iki, ik0, ik1, ik2⟩ := info_parts kinInfo
  obtain ⟨hl, hc, hm⟩ := h.len
  obtain ⟨hnl, hnc, hnm⟩ := hn.len
  unfold maxLen at hm hnm
  have hyes : (∀ k, k < nn → fitAt l ns k = true) → kindsL l ns = ns.map fun s => kindAt l (colI l s) := fun h => by unfold kindsL; rw [hnl, if_pos (all_range_iff.2 h)]
  have hno : ∀ k, k < nn → fitAt l ns k = false → kindsL l ns = [] := fun k hk hf => by unfold kindsL; rw [hnl, if_neg (by rw [all_range_no hk hf]; simp)]
  have HY := Lib.hid hyes; have HNO := Lib.hid hno
  have HL := Lib.hid hl; have HNL := Lib.hid hnl
  have HH := Lib.hid h; have HN := Lib.hid hn
  clear h hn hl hnl hyes hno
  go_enter Try.func131, Try.ntmps131
  go_wp2_with fail
  go_loopw [5, 6, 7, 8, 11] (fun kv _ _ _ i wr => ∃ (k : Nat) (kv' : Value), kv' = kv ∧ k ≤ nn ∧ i = .int .i64 k ∧ Hid (OwnX kinQ wr w.heap.size 39 1 kv' (kindsT l ns k)) ∧ Hid (∀ j, j < k → fitAt l ns j = true) ∧ Hid (Below w.heap.size w wr)) (fun _ _ _ _ i _ => nn - (intOf i).toNat)
  case atStart => exact ⟨0, _, rfl, Nat.zero_le _, rfl, Lib.hid (by rw [show kindsT l ns 0 = [] from rfl]; exact OwnX.nil _ _ _ _ _), Lib.hid (fun _ h => by omega), Lib.hid (Below.refl _ _)⟩
  case round =>
    obtain ⟨k, kv', rfl, hk, rfl, HX, HF, HB⟩ := hrel
    have hsz := HB.out.size
    have hlen : (kindsT l ns k).length = k := kindsT_len (by rw [HNL.out]; exact hk)
    have HLEN := Lib.hid hlen
    clear hlen
    obtain ⟨ka, kc, rfl, hk1, hk2⟩ := HX.out.form
    by_cases hlt : k < nn
    · have lk : k < ns.length := by rw [HNL.out]; exact hlt
      obtain ⟨b, o, x, rfl, hbB, hx, hcl⟩ := HN.out.at lk
      have hbl : b < w.heap.size := Nat.lt_of_lt_of_le hbB hB
      have hkw : Keeps (· < B) w wr := Keeps.of_below HB.out fun j hj => Nat.lt_of_lt_of_le hj hB
      have hat := fitAt_get (l := l) lk
      have hCP := Lib.hid (prog_colplace_any B ca cn cc l ns[k] wr (cols_keep HH.out (fun _ h => h) hkw) (Nat.le_trans hB hsz))
      have hCT := Lib.hid (fun W hW => prog_contains_any (some ⟨b, o, none⟩) k nc B (ns.take k) ns[k] W (strs_keep (HN.out.take (Nat.le_of_lt hlt)) (fun _ h => h) (hkw.trans (Keeps.of_below (B := wr.heap.size) (S := (· < B)) hW fun j hj => Nat.lt_of_lt_of_le hj (Nat.le_trans hB hsz)))))
      have HSTEP := Lib.hid (kindsT_succ (l := l) lk)
      have HNOk := Lib.hid (HNO.out k hlt)
      have HST := Lib.hid (fun h => upto_succ HF.out h)
      have hge := idxI_ge (fun c => eqT c.name ns[k]) l
      have hgl := idxI_lt (fun c => eqT c.name ns[k]) l
      have hge' : -1 ≤ colI l ns[k] := hge
      have hgl' : colI l ns[k] < cn := by rw [← HL.out]; exact hgl
      have k0 : (0 : Int) ≤ (k : Int) := by omega
      have k1 : (k : Int) < (nn : Int) := by omega
      have k2 : (k : Int) ≤ (nc : Int) := by omega
      clear hge hgl
      generalize ns[k] = s at *
      obtain rfl : x = [.string s] := hx
      have c0 : wr.cell? ⟨b, o + k, none⟩ = some (.string s) := by have := (HB.out.cell (p := ⟨b, o + k * 1 + 0, none⟩) hbl).trans (hcl 0 _ rfl); simpa using this
      have HAT := Lib.hid hat
      clear hcl hat hkw
      by_cases hq : colI l s < 0
      · have HE := Lib.hid (HNOk.out (by rw [HAT.out, decide_eq_false (by omega)]; rfl))
        have hq1 : colI l s = -1 := by omega
        rw [hq1] at hCP
        have HFIN := Lib.hid (fun W (h : Gr wr W) => kinds_post (v := .slice none 0 0) (OwnX.nil kinQ W w.heap.size 39 1) (HB.out.trans (h.below.mono hsz)) HE.out)
        clear hq hq1
        go_wp2_with (go_at_call 84; refine hCP.out.mono ?_; rintro e w' ⟨rfl, hg⟩)
        go_ret
        exact HFIN.out _ hg
      · obtain ⟨q, hqe⟩ : ∃ q : Nat, colI l s = q := ⟨(colI l s).toNat, by omega⟩
        rw [hqe] at hCP
        have q1 : ((q : Int) == -1) = false := by rw [beq_eq_false_iff_ne]; omega
        have q0 : (0 : Int) ≤ (q : Int) := by omega
        have q2 : (q : Int) < (cn : Int) := by omega
        cases hin : inB (ns.take k) s with
        | true =>
          rw [hin] at hCT
          have HE := Lib.hid (HNOk.out (by rw [HAT.out, hin]; simp))
          have HFIN := Lib.hid (fun W (h : Gr wr W) => kinds_post (v := .slice none 0 0) (OwnX.nil kinQ W w.heap.size 39 1) (HB.out.trans (h.below.mono hsz)) HE.out)
          clear hq hqe hin
          go_wp2_with (first
            | (go_at_call 84; refine hCP.out.mono ?_; rintro e w' ⟨rfl, hg⟩)
            | (go_at_call 90; refine (hCT.out _ hg.below).mono ?_; rintro e w'' ⟨rfl, rfl⟩))
          go_ret
          exact HFIN.out _ hg
        | false =>
          rw [hin] at hCT
          have HS := Lib.hid (HST.out (by rw [HAT.out, hin, decide_eq_true (by omega)]; rfl))
          have lq : q < l.length := by rw [HL.out]; omega
          obtain ⟨b2, o2, x2, rfl, hb2, hx2, hcl2⟩ := HH.out.at lq
          have hb2l : b2 < w.heap.size := Nat.lt_of_lt_of_le hb2 hB
          have hkq : kindAt l (colI l s) = l[q].kind := by rw [hqe]; exact kindAt_get (by omega) (by simpa using lq)
          rw [hkq] at HSTEP
          generalize l[q] = col at *
          obtain rfl : x2 = [.string col.name, .int .i64 col.kind, .bool col.null] := hx2
          have hc2 : wr.cell? ⟨b2, o2 + q * 3 + 1, none⟩ = some (.int .i64 col.kind) := (HB.out.cell (p := ⟨b2, o2 + q * 3 + 1, none⟩) hb2l).trans (hcl2 1 _ rfl)
          have hb2r : b2 < wr.heap.size := Nat.lt_of_lt_of_le hb2l hsz
          clear hcl2 hq hqe hin hkq
          go_wp2_with (go_at_call 84; refine hCP.out.mono ?_; rintro e w' ⟨rfl, hg⟩)
          have hc3 := (hg.below.cell (p := ⟨b2, o2 + q * 3 + 1, none⟩) hb2r).trans hc2
          have hXB := HX.out.below kin_stays hg.below
          have hBB := HB.out.trans (hg.below.mono hsz)
          have hCT2 := Lib.hid (hCT.out _ hg.below)
          generalize kindsT l ns k = acc at *
          obtain ⟨xs6, hown6, hnx6⟩ := OwnX.step hXB kin_stays (X := [.int .i64 col.kind]) (y := col.kind) rfl
          have HOW6 := Lib.hid (hown6 (.cells #[.int .i64 col.kind] 39))
          have HNX6 := Lib.hid hnx6
          have HNC6 := Lib.hid (cells_fresh w' [.int .i64 col.kind] 39)
          have HON6 : Hid (∀ u ∈ ([.int .i64 col.kind] : List Value), u.oneCell' = true) := Lib.hid (by intro u hu; simp at hu; subst hu; rfl)
          have hsz2 := hBB.size
          have HBB := Lib.hid hBB
          have HXB := Lib.hid hXB
          have hacc : acc.length ≤ 3000 := by have := HLEN.out; omega
          clear hown6 hnx6 hg hc2 hXB hBB c0 hCT hCP
          go_wp2_with (first
            | (go_at_call 90; refine hCT2.out.mono ?_; rintro e w'' ⟨rfl, rfl⟩)
            | (at_builtin; refine wpList_append_own_at _ rfl _ _ 127 rfl w.heap.size 39 ik _ 1 8 Try.underlying127 iki ik0 ik1 ik2 rfl (by decide) (.slice ka acc.length kc) acc.length xs6 rfl HOW6.out ⟨_, 0, none⟩ 1 1 [.int .i64 col.kind] rfl rfl ?c1 ?c2 ?c3 ?c4 ?c5 ?_))
          case c1 => first | exact HNC6.out | (have h := HNC6.out; rw [size_box] at h; exact h)
          case c2 => exact HON6.out
          case c3 => unfold maxLen; omega
          case c4 => omega
          case c5 => simp; omega
          intro v6 w6 hown6 hg6 _ hat6
          obtain ⟨hx6, hk6⟩ := HNX6.out _ _ _ hown6 hg6 (by first | exact hat6 | simpa using hat6)
          have hbe := HXB.out.stepBelow hk6 hsz2
          rw [← HSTEP.out] at hx6
          have HNN := Lib.hid hx6
          have HBN := Lib.hid (HBB.out.trans hbe)
          clear hown6 hg6 hat6 HOW6 HNX6 HNC6 HON6 hx6 hk6 hbe
          go_wp2_with fail
          go_roundw
          case rel => exact ⟨k + 1, _, rfl, by omega, by go_num, HNN, HS, HBN⟩
          case measure => simp [intOf]; omega
    · have hkn : k = nn := by omega
      have HE := Lib.hid (HY.out fun j hj => HF.out j (by omega))
      have HFIN := Lib.hid (kinds_post HX.out HB.out (HE.out.trans (kindsT_all (by rw [HNL.out]; omega)).symm))
      go_wp2_with fail
      go_ret
      exact HFIN.out
end Go.Proofs.Ytkghkioghkapcaa
