/-
  Layer 3's statements, walked: what is laid is read as the same (made by wip/gen_wire.py)
-/
import Derived.Test.YtbhpbiimfcdgaaaWireH
import Derived.Test.YtbhpbiimfcdgaaaWireG2
import Derived.Test.YtbhpbiimfcdgaaaWireD2
import Derived.Test.YtbhpbiimfcdgaaaWireFt
namespace Go.Proofs.Ytbhpbiimfcdgaaa
open Go.RowKit
set_option linter.unusedVariables false

/-- What a Put answers, whatever it is. -/
def Laid (w : World) (ts : List Tok) (e : Ending) (w' : World) : Prop :=
  ∃ (a : Option Addr) (n c : Nat) (k : Int), e = .returned (.tuple #[.slice a n c, .int .i64 k]) ∧ k = firstF ts ∧ (k = 0 → (bytesL ts).length = n ∧ Rd w' w'.heap.size a (cb (bytesL ts)) ∧ n ≤ c ∧ c ≤ maxLen) ∧ n ≤ maxLen ∧ Below w.heap.size w w'
theorem PutPost.laid {w w' : World} {ts : List Tok} {e : Ending} (h : PutPost w ts e w') : Laid w ts e w' := by
  obtain ⟨hb, ⟨F, v, rfl, ho⟩ | ⟨F, rfl⟩⟩ := h
  · obtain ⟨a, c, rfl, hr, hl⟩ := Rd.own ho
    have hc : (bytesL ts).length ≤ c ∧ c ≤ maxLen := by
      rcases ho.2 with ⟨e1, e2⟩ | ⟨g, cap', cur, e1, _, _, h3, h4, _⟩
      · simp only [Value.slice.injEq] at e1
        obtain ⟨_, e3, e4⟩ := e1
        rw [e3, e4]; exact ⟨Nat.le_refl _, Nat.zero_le _⟩
      · simp only [Value.slice.injEq] at e1
        obtain ⟨_, _, e4⟩ := e1
        rw [e4]; exact ⟨h3, h4⟩
    exact ⟨a, _, c, 0, rfl, F.symm, fun _ => ⟨rfl, hr, hc.1, hc.2⟩, Nat.le_trans hc.1 hc.2, hb⟩
  · exact ⟨none, 0, 0, _, rfl, rfl, fun h => absurd h F, Nat.zero_le _, hb⟩
theorem same_toks {sh : Sh} {ts us : List Tok} {w : World} {St : Nat → Prop} {cs : List Value} (hI : Is w St sh cs ts) (F : firstF ts = 0) (h : parse sh (bytesL ts) = some (us, [])) : us = ts := by
  have h2 := parse_lay sh ts [] hI.fit F
  rw [List.append_nil] at h2
  rw [h2] at h
  simpa using h.symm
theorem parse_same {sh : Sh} {ts : List Tok} {w : World} {St : Nat → Prop} {cs : List Value} (hI : Is w St sh cs ts) (F : firstF ts = 0) : parse sh (bytesL ts) = some (ts, []) := by
  have h2 := parse_lay sh ts [] hI.fit F
  rwa [List.append_nil] at h2
/-- A box made last, in a world that has grown. -/
theorem box_in {w w' : World} {b : Nat} {o : Obj} (h : w.heap[b]? = some o) (hb : Below w.heap.size w w') : w'.heap[b]? = some o := (hb.block b (lt_of_block h)).trans h
theorem is_in {w w' : World} {sh : Sh} {cs : List Value} {ts : List Tok} (h : Is w (· < w.heap.size) sh cs ts) (hb : Below w.heap.size w w') : Is w' (· < w'.heap.size) sh cs ts :=
  h.keep (fun k hk => Nat.lt_of_lt_of_le hk hb.size) (Keeps.of_below hb fun _ h => h)

set_option maxRecDepth 100000 in
set_option maxHeartbeats 16000000 in
theorem walk_round (co : List Value) (to : List Tok) (cr : List Value) (tr : List Tok) (cc : List Value) (tc : List Tok) (w : World)
    (hIo : Is w (· < w.heap.size) shOp co to) (hRo : Room [] to) (hIr : Is w (· < w.heap.size) shRecord cr tr) (hRr : Room [] tr) (hIc : Is w (· < w.heap.size) shCatalog cc tc) (hRc : Room [] tc) :
    Calls Try.prog 11 #[.agg co.toArray, .agg cr.toArray, .agg cc.toArray] w fun e w' => e = .returned (.bool true) ∧ Below w.heap.size w w' := by
  have hio : (Try.prog.info? 72).map (·.size) = some 23 := by kernel_rfl
  have HIo := Lib.hid hio; clear hio
  have hzo : co.length = 23 := hIo.size
  have HCo : Hid ((Try.prog.info? 72).map (·.size) = some co.length) := Lib.hid (by rw [HIo.out, hzo])
  clear hzo
  have hir : (Try.prog.info? 65).map (·.size) = some 15 := by kernel_rfl
  have HIr := Lib.hid hir; clear hir
  have hzr : cr.length = 15 := hIr.size
  have HCr : Hid ((Try.prog.info? 65).map (·.size) = some cr.length) := Lib.hid (by rw [HIr.out, hzr])
  clear hzr
  have hic : (Try.prog.info? 51).map (·.size) = some 7 := by kernel_rfl
  have HIc := Lib.hid hic; clear hic
  have hzc : cc.length = 7 := hIc.size
  have HCc : Hid ((Try.prog.info? 51).map (·.size) = some cc.length) := Lib.hid (by rw [HIc.out, hzc])
  clear hzc
  obtain ⟨W0, hW0⟩ : ∃ u, u = ((w.alloc (.cells co.toArray 72)).alloc (.cells cr.toArray 65)).alloc (.cells cc.toArray 51) := ⟨_, rfl⟩
  have hb0 : Below w.heap.size w W0 := by rw [hW0]; exact (((Below.refl _ _).alloc (Nat.le_refl _) _).alloc (by simp) _).alloc (by simp; omega) _
  have hbo : W0.heap[w.heap.size]? = some (.cells co.toArray 72 (0, 0)) := by rw [hW0]; exact box_in (box_in (heap_alloc_new w _) ((Below.refl _ _).alloc (Nat.le_refl _) _)) ((Below.refl _ _).alloc (Nat.le_refl _) _)
  have hbr : W0.heap[w.heap.size + 1]? = some (.cells cr.toArray 65 (0, 0)) := by rw [hW0]; exact box_in (by simpa using heap_alloc_new (w.alloc (.cells co.toArray 72)) (.cells cr.toArray 65)) ((Below.refl _ _).alloc (Nat.le_refl _) _)
  have hbc : W0.heap[w.heap.size + 1 + 1]? = some (.cells cc.toArray 51 (0, 0)) := by rw [hW0]; simpa using heap_alloc_new ((w.alloc (.cells co.toArray 72)).alloc (.cells cr.toArray 65)) (.cells cc.toArray 51)
  have Jo := is_in hIo hb0
  have Jr := is_in hIr hb0
  have Jc := is_in hIc hb0
  clear hIo hIr hIc
  have HBo := Lib.hid hbo; have HBr := Lib.hid hbr; have HBc := Lib.hid hbc; clear hbo hbr hbc
  have rngo' := Lib.hid (box_range HBo.out)
  have rngo := rngo'
  rw [hW0] at rngo
  have HW0 := Lib.hid hW0; clear hW0
  go_enter Try.func11, Try.ntmps11
  go_wp2_with (refine wpList_load_mid rfl 72 _ rfl (w.heap.size) 0 rfl _ _ rngo.out Try.underlying72 rfl HCo.out ?_)
  rw [← HW0.out]
  clear rngo rngo' HW0
  refine ((Put_Op co to W0 Jo hRo).mono fun _ _ h => h.laid).mono ?_
  rintro e w1 ⟨ao, no, po, ko, rfl, hko, hfo, hno, hb1⟩
  have Jr := is_in Jr hb1
  have HBr := Lib.hid (box_in HBr.out hb1)
  have Jc := is_in Jc hb1
  have HBc := Lib.hid (box_in HBc.out hb1)
  have HKo := Lib.hid hko; clear hko
  have HFo := Lib.hid hfo; clear hfo
  unfold maxLen at hno
  have rngr := Lib.hid (box_range HBr.out)
  go_wp2_with (refine wpList_load_mid rfl 65 _ rfl (w.heap.size + 1) 0 rfl _ _ rngr.out Try.underlying65 rfl HCr.out ?_)
  clear rngr
  refine ((Put_Record cr tr w1 Jr hRr).mono fun _ _ h => h.laid).mono ?_
  rintro e w2 ⟨ar, nr, pr, kr, rfl, hkr, hfr, hnr, hb2⟩
  have Jc := is_in Jc hb2
  have HBc := Lib.hid (box_in HBc.out hb2)
  have HKr := Lib.hid hkr; clear hkr
  have HFr := Lib.hid hfr; clear hfr
  unfold maxLen at hnr
  have rngc := Lib.hid (box_range HBc.out)
  go_wp2_with (refine wpList_load_mid rfl 51 _ rfl (w.heap.size + 1 + 1) 0 rfl _ _ rngc.out Try.underlying51 rfl HCc.out ?_)
  clear rngc
  refine ((Put_Catalog cc tc w2 Jc hRc).mono fun _ _ h => h.laid).mono ?_
  rintro e w3 ⟨ac, nc, pc, kc, rfl, hkc, hfc, hnc, hb3⟩
  have HKc := Lib.hid hkc; clear hkc
  have HFc := Lib.hid hfc; clear hfc
  unfold maxLen at hnc
  have hB3 : Below w.heap.size w w3 := hb0.trans ((hb1.trans ((hb2.trans (hb3.mono hb2.size)).mono hb1.size)).mono hb0.size)
  by_cases ho : ko = 0
  case neg =>
    have qo : ((ko != 0) : Bool) = true := by simpa using ho
    go_wp2_with fail
    refine (awake_any w3).mono ?_
    rintro e w4 ⟨rfl, hb4⟩
    go_wp2
    go_ret
    exact ⟨rfl, hB3.trans (hb4.mono hB3.size)⟩
  subst ho
  by_cases hr : kr = 0
  case neg =>
    have qr : ((kr != 0) : Bool) = true := by simpa using hr
    go_wp2_with fail
    refine (awake_any w3).mono ?_
    rintro e w4 ⟨rfl, hb4⟩
    go_wp2
    go_ret
    exact ⟨rfl, hB3.trans (hb4.mono hB3.size)⟩
  subst hr
  by_cases hc : kc = 0
  case neg =>
    have qc : ((kc != 0) : Bool) = true := by simpa using hc
    go_wp2_with fail
    refine (awake_any w3).mono ?_
    rintro e w4 ⟨rfl, hb4⟩
    go_wp2
    go_ret
    exact ⟨rfl, hB3.trans (hb4.mono hB3.size)⟩
  subst hc
  by_cases ho : no ≤ 262144
  case neg =>
    have qo : (262144 : Int) < (no : Int) := by omega
    go_wp2_with fail
    refine (awake_any w3).mono ?_
    rintro e w4 ⟨rfl, hb4⟩
    go_wp2
    go_ret
    exact ⟨rfl, hB3.trans (hb4.mono hB3.size)⟩
  by_cases hr : nr ≤ 262144
  case neg =>
    have qr : (262144 : Int) < (nr : Int) := by omega
    go_wp2_with fail
    refine (awake_any w3).mono ?_
    rintro e w4 ⟨rfl, hb4⟩
    go_wp2
    go_ret
    exact ⟨rfl, hB3.trans (hb4.mono hB3.size)⟩
  by_cases hc : nc ≤ 262144
  case neg =>
    have qc : (262144 : Int) < (nc : Int) := by omega
    go_wp2_with fail
    refine (awake_any w3).mono ?_
    rintro e w4 ⟨rfl, hb4⟩
    go_wp2
    go_ret
    exact ⟨rfl, hB3.trans (hb4.mono hB3.size)⟩
  have hb23 := hb3
  have hb13 := hb2.trans (hb3.mono hb2.size)
  have hb03 := hb1.trans (hb13.mono hb1.size)
  obtain ⟨lo, ro, dqo, mo⟩ := HFo.out rfl
  have Fo : firstF to = 0 := HKo.out.symm
  have Po := Lib.hid (parse_same Jo Fo)
  have Lho := Lib.hid lo
  have ro3 : Rd w3 w3.heap.size ao (cb (bytesL to)) := (ro.below hb13 (Nat.le_refl _)).more hb13.size
  have Fho := Lib.hid Fo; clear Fo lo
  obtain ⟨lr, rr, dqr, mr⟩ := HFr.out rfl
  have Fr : firstF tr = 0 := HKr.out.symm
  have Pr := Lib.hid (parse_same Jr Fr)
  have Lhr := Lib.hid lr
  have rr3 : Rd w3 w3.heap.size ar (cb (bytesL tr)) := (rr.below hb23 (Nat.le_refl _)).more hb23.size
  have Fhr := Lib.hid Fr; clear Fr lr
  obtain ⟨lc, rc, dqc, mc⟩ := HFc.out rfl
  have Fc : firstF tc = 0 := HKc.out.symm
  have Pc := Lib.hid (parse_same Jc Fc)
  have Lhc := Lib.hid lc
  have rc3 := rc
  have Fhc := Lib.hid Fc; clear Fc lc
  clear HFo HKo ro HFr HKr rr HFc HKc rc
  go_wp2_with fail
  refine (Get_Op ao no po (bytesL to) w3 Lho.out (ro3.rdS) dqo mo).mono ?_
  rintro e w4 ⟨hb4, ⟨uo, so, Qo, rfl, Io⟩ | ⟨Qo, rfl⟩⟩
  case inr => exact absurd Po.out (Qo _)
  have huo : uo = to := by have h := Po.out; rw [h] at Qo; simpa using Qo.symm
  rw [huo] at Io; clear huo Qo uo
  have szo : so.length = 23 := Io.size
  have hso : Hid ((#[.int .i64 0, .int .i64 0, .int .i64 0, .int .i64 0, .string ByteArray.empty, .string ByteArray.empty, .string ByteArray.empty, .string ByteArray.empty, .string ByteArray.empty, .slice none 0 0, .string ByteArray.empty, .int .i64 0, .slice none 0 0, .int .i64 0, .int .i64 0, .string ByteArray.empty, .string ByteArray.empty, .string ByteArray.empty, .int .i64 0, .bool false, .int .i64 0, .int .i64 0, .int .i64 0] : Array Value).size = so.toArray.size) := Lib.hid (show (23 : Nat) = so.toArray.size by rw [List.size_toArray, szo])
  have hio : Hid ((Try.prog.info? 72).map (·.size) = some so.toArray.size) := Lib.hid (by rw [HIo.out, List.size_toArray, szo])
  have HDo : Hid ((Try.prog.info? 72).map (·.size) = some so.length) := Lib.hid (by rw [HIo.out, szo])
  have h1o := Lib.hid (all_oneCell_toArray Io.oneCell)
  clear szo
  obtain ⟨V4, hV4⟩ : ∃ u, u = w4.alloc (.cells so.toArray 72) := ⟨_, rfl⟩
  have bb4 : Below w3.heap.size w3 V4 := by rw [hV4]; exact hb4.alloc hb4.size _
  have bxo : Hid (V4.heap[w4.heap.size]? = some (.cells so.toArray 72 (0, 0))) := Lib.hid (by rw [hV4]; exact heap_alloc_new _ _)
  have Ko : Is V4 (· < V4.heap.size) shOp so to := by rw [hV4]; exact Io.keep (fun k hk => by have := hk.2; simp; omega) (Keeps.refl.alloc _)
  have HV4 := Lib.hid hV4; clear hV4 Io hb4
  have ro3 := (ro3.below bb4 (Nat.le_refl _)).more bb4.size
  have rr3 := (rr3.below bb4 (Nat.le_refl _)).more bb4.size
  have rc3 := (rc3.below bb4 (Nat.le_refl _)).more bb4.size
  go_wp2_with (refine wpList_store_last w4 rfl 72 _ _ rfl 72 #[.int .i64 0, .int .i64 0, .int .i64 0, .int .i64 0, .string ByteArray.empty, .string ByteArray.empty, .string ByteArray.empty, .string ByteArray.empty, .string ByteArray.empty, .slice none 0 0, .string ByteArray.empty, .int .i64 0, .slice none 0 0, .int .i64 0, .int .i64 0, .string ByteArray.empty, .string ByteArray.empty, .string ByteArray.empty, .int .i64 0, .bool false, .int .i64 0, .int .i64 0, .int .i64 0] so.toArray w4.heap.size rfl rfl rfl hio.out hso.out h1o.out ?_)
  rw [← HV4.out]
  refine (Get_Record ar nr pr (bytesL tr) V4 Lhr.out (rr3.rdS) dqr mr).mono ?_
  rintro e w5 ⟨hb5, ⟨ur, sr, Qr, rfl, Ir⟩ | ⟨Qr, rfl⟩⟩
  case inr => exact absurd Pr.out (Qr _)
  have hur : ur = tr := by have h := Pr.out; rw [h] at Qr; simpa using Qr.symm
  rw [hur] at Ir; clear hur Qr ur
  have szr : sr.length = 15 := Ir.size
  have hsr : Hid ((#[.int .i64 0, .int .i64 0, .int .i64 0, .int .i64 0, .int .i64 0, .int .i64 0, .slice none 0 0, .slice none 0 0, .string ByteArray.empty, .int .i64 0, .int .i64 0, .int .i64 0, .slice none 0 0, .slice none 0 0, .string ByteArray.empty] : Array Value).size = sr.toArray.size) := Lib.hid (show (15 : Nat) = sr.toArray.size by rw [List.size_toArray, szr])
  have hir : Hid ((Try.prog.info? 65).map (·.size) = some sr.toArray.size) := Lib.hid (by rw [HIr.out, List.size_toArray, szr])
  have HDr : Hid ((Try.prog.info? 65).map (·.size) = some sr.length) := Lib.hid (by rw [HIr.out, szr])
  have h1r := Lib.hid (all_oneCell_toArray Ir.oneCell)
  clear szr
  obtain ⟨V5, hV5⟩ : ∃ u, u = w5.alloc (.cells sr.toArray 65) := ⟨_, rfl⟩
  have bb5 : Below V4.heap.size V4 V5 := by rw [hV5]; exact hb5.alloc hb5.size _
  have bxr : Hid (V5.heap[w5.heap.size]? = some (.cells sr.toArray 65 (0, 0))) := Lib.hid (by rw [hV5]; exact heap_alloc_new _ _)
  have Kr : Is V5 (· < V5.heap.size) shRecord sr tr := by rw [hV5]; exact Ir.keep (fun k hk => by have := hk.2; simp; omega) (Keeps.refl.alloc _)
  have HV5 := Lib.hid hV5; clear hV5 Ir hb5
  have ro3 := (ro3.below bb5 (Nat.le_refl _)).more bb5.size
  have rr3 := (rr3.below bb5 (Nat.le_refl _)).more bb5.size
  have rc3 := (rc3.below bb5 (Nat.le_refl _)).more bb5.size
  have bxo := Lib.hid (box_in bxo.out bb5)
  have Ko := is_in Ko bb5
  go_wp2_with (refine wpList_store_last w5 rfl 65 _ _ rfl 65 #[.int .i64 0, .int .i64 0, .int .i64 0, .int .i64 0, .int .i64 0, .int .i64 0, .slice none 0 0, .slice none 0 0, .string ByteArray.empty, .int .i64 0, .int .i64 0, .int .i64 0, .slice none 0 0, .slice none 0 0, .string ByteArray.empty] sr.toArray w5.heap.size rfl rfl rfl hir.out hsr.out h1r.out ?_)
  rw [← HV5.out]
  refine (Get_Catalog ac nc pc (bytesL tc) V5 Lhc.out (rc3.rdS) dqc mc).mono ?_
  rintro e w6 ⟨hb6, ⟨uc, sc, Qc, rfl, Ic⟩ | ⟨Qc, rfl⟩⟩
  case inr => exact absurd Pc.out (Qc _)
  have huc : uc = tc := by have h := Pc.out; rw [h] at Qc; simpa using Qc.symm
  rw [huc] at Ic; clear huc Qc uc
  have szc : sc.length = 7 := Ic.size
  have hsc : Hid ((#[.int .i64 0, .int .i64 0, .slice none 0 0, .slice none 0 0, .slice none 0 0, .slice none 0 0, .slice none 0 0] : Array Value).size = sc.toArray.size) := Lib.hid (show (7 : Nat) = sc.toArray.size by rw [List.size_toArray, szc])
  have hic : Hid ((Try.prog.info? 51).map (·.size) = some sc.toArray.size) := Lib.hid (by rw [HIc.out, List.size_toArray, szc])
  have HDc : Hid ((Try.prog.info? 51).map (·.size) = some sc.length) := Lib.hid (by rw [HIc.out, szc])
  have h1c := Lib.hid (all_oneCell_toArray Ic.oneCell)
  clear szc
  obtain ⟨V6, hV6⟩ : ∃ u, u = w6.alloc (.cells sc.toArray 51) := ⟨_, rfl⟩
  have bb6 : Below V5.heap.size V5 V6 := by rw [hV6]; exact hb6.alloc hb6.size _
  have bxc : Hid (V6.heap[w6.heap.size]? = some (.cells sc.toArray 51 (0, 0))) := Lib.hid (by rw [hV6]; exact heap_alloc_new _ _)
  have Kc : Is V6 (· < V6.heap.size) shCatalog sc tc := by rw [hV6]; exact Ic.keep (fun k hk => by have := hk.2; simp; omega) (Keeps.refl.alloc _)
  have HV6 := Lib.hid hV6; clear hV6 Ic hb6
  have ro3 := (ro3.below bb6 (Nat.le_refl _)).more bb6.size
  have rr3 := (rr3.below bb6 (Nat.le_refl _)).more bb6.size
  have rc3 := (rc3.below bb6 (Nat.le_refl _)).more bb6.size
  have bxo := Lib.hid (box_in bxo.out bb6)
  have Ko := is_in Ko bb6
  have bxr := Lib.hid (box_in bxr.out bb6)
  have Kr := is_in Kr bb6
  have rngo : Hid ((w6.alloc (.cells sc.toArray 51)).rangeAt w4.heap.size 0 so) := Lib.hid (by have h := box_range bxo.out; rw [HV6.out] at h; exact h)
  go_wp2_with (first | (refine wpList_store_last w6 rfl 51 _ _ rfl 51 #[.int .i64 0, .int .i64 0, .slice none 0 0, .slice none 0 0, .slice none 0 0, .slice none 0 0, .slice none 0 0] sc.toArray w6.heap.size rfl rfl rfl hic.out hsc.out h1c.out ?_) | (refine wpList_load_mid rfl 72 _ rfl w4.heap.size 0 rfl _ _ rngo.out Try.underlying72 rfl HDo.out ?_))
  rw [← HV6.out]
  clear rngo
  have hBV : Below w.heap.size w V6 := hB3.trans ((bb4.trans ((bb5.trans (bb6.mono bb5.size)).mono bb4.size)).mono hB3.size)
  refine (Put_Op so to V6 Ko hRo).mono ?_
  rintro e w7 ⟨hb7, ⟨Fo, vo, rfl, oo⟩ | ⟨Fo, rfl⟩⟩
  case inr => exact absurd Fho.out Fo
  clear Fo
  rw [Lho.out] at oo
  obtain ⟨bo, eo, rfl, go, _⟩ := Rd.own oo
  clear oo
  have ro3 := (ro3.below hb7 (Nat.le_refl _)).more hb7.size
  have rr3 := (rr3.below hb7 (Nat.le_refl _)).more hb7.size
  have rc3 := (rc3.below hb7 (Nat.le_refl _)).more hb7.size
  have bxr := Lib.hid (box_in bxr.out hb7)
  have Kr := is_in Kr hb7
  have bxc := Lib.hid (box_in bxc.out hb7)
  have Kc := is_in Kc hb7
  have rngr := Lib.hid (box_range bxr.out)
  go_wp2_with (refine wpList_load_mid rfl 65 _ rfl w5.heap.size 0 rfl _ _ rngr.out Try.underlying65 rfl HDr.out ?_)
  clear rngr
  refine (Put_Record sr tr w7 Kr hRr).mono ?_
  rintro e w8 ⟨hb8, ⟨Fr, vr, rfl, or⟩ | ⟨Fr, rfl⟩⟩
  case inr => exact absurd Fhr.out Fr
  clear Fr
  rw [Lhr.out] at or
  obtain ⟨br, er, rfl, gr, _⟩ := Rd.own or
  clear or
  have ro3 := (ro3.below hb8 (Nat.le_refl _)).more hb8.size
  have rr3 := (rr3.below hb8 (Nat.le_refl _)).more hb8.size
  have rc3 := (rc3.below hb8 (Nat.le_refl _)).more hb8.size
  have go := (go.below hb8 (Nat.le_refl _)).more hb8.size
  have bxc := Lib.hid (box_in bxc.out hb8)
  have Kc := is_in Kc hb8
  have rngc := Lib.hid (box_range bxc.out)
  go_wp2_with (refine wpList_load_mid rfl 51 _ rfl w6.heap.size 0 rfl _ _ rngc.out Try.underlying51 rfl HDc.out ?_)
  clear rngc
  refine (Put_Catalog sc tc w8 Kc hRc).mono ?_
  rintro e w9 ⟨hb9, ⟨Fc, vc, rfl, oc⟩ | ⟨Fc, rfl⟩⟩
  case inr => exact absurd Fhc.out Fc
  clear Fc
  rw [Lhc.out] at oc
  obtain ⟨bc, ec, rfl, gc, _⟩ := Rd.own oc
  clear oc
  have ro3 := (ro3.below hb9 (Nat.le_refl _)).more hb9.size
  have rr3 := (rr3.below hb9 (Nat.le_refl _)).more hb9.size
  have rc3 := (rc3.below hb9 (Nat.le_refl _)).more hb9.size
  have go := (go.below hb9 (Nat.le_refl _)).more hb9.size
  have gr := (gr.below hb9 (Nat.le_refl _)).more hb9.size
  have hB9 : Below w.heap.size w w9 := hBV.trans ((hb7.trans ((hb8.trans (hb9.mono hb8.size)).mono hb7.size)).mono hBV.size)
  go_wp2_with fail
  refine (awake_any w9).mono ?_
  rintro e w10 ⟨rfl, hb10⟩
  have yo := run_string_of (P := Try.prog) (ro3.below hb10 (Nat.le_refl _)) 31 9 5 no po Lho.out Try.underlying31 Try.underlying5 Try.underlying9
  have zo := run_string_of (P := Try.prog) (go.below hb10 (Nat.le_refl _)) 31 9 5 no eo Lho.out Try.underlying31 Try.underlying5 Try.underlying9
  have yr := run_string_of (P := Try.prog) (rr3.below hb10 (Nat.le_refl _)) 31 9 5 nr pr Lhr.out Try.underlying31 Try.underlying5 Try.underlying9
  have zr := run_string_of (P := Try.prog) (gr.below hb10 (Nat.le_refl _)) 31 9 5 nr er Lhr.out Try.underlying31 Try.underlying5 Try.underlying9
  have yc := run_string_of (P := Try.prog) (rc3.below hb10 (Nat.le_refl _)) 31 9 5 nc pc Lhc.out Try.underlying31 Try.underlying5 Try.underlying9
  have zc := run_string_of (P := Try.prog) (gc.below hb10 (Nat.le_refl _)) 31 9 5 nc ec Lhc.out Try.underlying31 Try.underlying5 Try.underlying9
  clear ro3 go rr3 gr rc3 gc
  go_wp2
  go_ret
  exact ⟨rfl, hB9.trans (hb10.mono hB9.size)⟩
end Go.Proofs.Ytbhpbiimfcdgaaa
