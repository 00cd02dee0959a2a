/-
  Layer 8, the document's answer, by contract: Reach.
-/
import Derived.Test.YtekhkmhpeefenaaOwnR
import Derived.Test.YtekhkmhpeefenaaRolF
namespace Go.Proofs.Ytekhkmhpeefenaa
set_option linter.unusedVariables false
open Go.RowKit Go.Sort Go.Shelf

/-- 'append(v, src...)', v a row of one's own of elements that are all in themselves, src whatever reads as a list. -/
theorem wpList_append_flat {P : Program} {w : World} {ops : Array Oper} {rest : List Oper} {o : Oper} {a : Act} {K : Exit → Act → World → Prop} (hgd : o.guard = none) (s x : Operand) (t : TypeId)
    (ho : o.op = .call { callee := .builtin .append, args := #[s, x], argTypes := #[t, t] })
    (base : Nat) (e : TypeId) (i : TypeInfo) (z : Value) (sz bytes : Nat) (ht : P.underlying t = some (.slice e)) (hi : P.info? e = some i) (hz : i.zero = some z)
    (hsize : i.size = sz) (hby : i.bytes = bytes) (hzs : z.cells.size = sz) (hsz : 0 < sz)
    {α : Type} {S : Nat → Prop} {R : Elem α} (hR : Stays R sz) (hRw : ∀ {w w' : World} {S S' : Nat → Prop} {x : List Value} {y : α}, R w S x y → R w' S' x y) {v : Value} {l : List α} (hs : a.eval s = v) (hown : OwnX R w base e sz v l)
    {A : Option Addr} {m c : Nat} {l2 : List α} (hx : a.eval x = .slice A m c) (hL : Lst w S (R w S) sz (.slice A m c) l2)
    (h63 : l.length + m ≤ maxLen) (hbytes : ((l.length + m) + (l.length + m) / 4 + 192) * bytes ≤ 281474976710656) (hbase : base ≤ w.heap.size)
    (h : ∀ v' w', OwnX R w' base e sz v' (l ++ l2) → Below base w w' → Keeps (fun k => v.ownBlock ≠ some k) w w' → wpList P ops K rest (a.put o.dst v') w') : wpList P ops K (o :: rest) a w := by
  obtain ⟨hlm, hmc, hcm⟩ := hL.len
  obtain ⟨xss, hn, hxl, hxs, hrd⟩ := hL.cells fun x y hy hp => hR.size hp
  obtain ⟨hf1, hf2⟩ := flat_at hxs
  have h1 : ∀ u ∈ xss.flatten, u.oneCell' = true := by
    intro u hu
    obtain ⟨x, hx', hux⟩ := List.mem_flatten.1 hu
    obtain ⟨k, hk, rfl⟩ := List.mem_iff_getElem.1 hx'
    have hkl : k < l2.length := by omega
    exact hR.one (hxl k _ _ (List.getElem?_eq_getElem hk) (List.getElem?_eq_getElem hkl)) u hux
  obtain ⟨yss, hown1, hyl, hyx⟩ := hown
  cases A with
  | none =>
    have h0 : m = 0 := by
      rcases hrd with h | ⟨b, o, ha, _⟩
      · subst h; simpa using hn.symm
      · cases ha
    subst h0
    obtain rfl : l2 = [] := List.eq_nil_of_length_eq_zero hlm
    have hrun : (Builtin.append_ #[t, t] o.type #[v, .slice none 0 c]).run P w = .ok v w := by
      rcases hown1.2 with ⟨rfl, _⟩ | ⟨g, cap, cur, rfl, _, _, hnc, _⟩
      · simp [Builtin.append_, run_underlying ht, sizeOf, typeInfo, hi, Builtin.lenOf, Builtin.firstCells]
      · simp [Builtin.append_, run_underlying ht, sizeOf, typeInfo, hi, Builtin.lenOf, Builtin.firstCells, hnc, storeCells]
    refine wpList_plain hgd fun K' hK => ?_
    unfold Oper.wp execOp
    simp only [ho, resolve, invoke, builtin, Sem.run_bind, Sem.run_pure, Result.andThen_ok, List.map_toArray, List.map_cons, List.map_nil, hs, hx, hrun]
    exact hK _ _ (h v w (by rw [List.append_nil]; exact ⟨yss, hown1, hyl, hyx⟩) (Below.refl _ _) Keeps.refl)
  | some ad =>
    refine wpList_append_own_wide w hgd s x t ho base e i z sz bytes ht hi hz hsize hby hzs hsz v l.length yss.flatten hs hown1 ad m c xss.flatten hx (by rw [hf1, hn]) ?_ h1 h63 hbytes hbase ?_
    · intro j u hj
      by_cases hne : xss = []
      · subst hne; simp at hj
      · obtain ⟨ad', he, hat⟩ := hrd.flat hxs hne
        cases he
        exact hat j u hj
    · intro v' w' hown' hg _
      have hb : Below base w w' := ⟨hg.os, hg.tape, hg.output, hg.size, fun k hk => hg.block k (by omega) (by
        rcases hown1.2 with ⟨rfl, _⟩ | ⟨g, cap, cur, rfl, hg1, _⟩
        · simp [Value.ownBlock]
        · simp only [Value.ownBlock, ne_eq, Option.some.injEq]; omega)⟩
      refine h v' w' ⟨yss ++ xss, by rw [List.length_append, hlm, List.flatten_append]; exact hown', by rw [List.length_append, List.length_append, hn, hyl, hlm], fun i x y hx hy => ?_⟩ hb (Keeps.of_grown hg fun k hk h2 => h2 hk)
      by_cases hi : i < l.length
      · rw [List.getElem?_append_left (by omega)] at hx
        rw [List.getElem?_append_left hi] at hy
        exact hRw (hyx i x y hx hy)
      · rw [List.getElem?_append_right (by omega)] at hx
        rw [List.getElem?_append_right (by omega)] at hy
        rw [hyl] at hx
        exact hRw (hxl _ x y hx hy)

/-- A literal row of one text. -/
theorem lit_str (w : World) (x : ByteArray) : Lst (w.alloc (.cells #[.string x] 9)) (fun _ => True) strP 1 (.slice (some ⟨w.heap.size, 0, none⟩) 1 1) [x] :=
  Lst.row [[.string x]] (heap_alloc_new w _) (by simp) trivial rfl rfl (by unfold maxLen; omega) fun i z y hz hy => by
    cases i with
    | zero => simp at hz hy; subst hz hy; rfl
    | succ i => simp at hz
theorem lit_own (w : World) (x : ByteArray) : OwnX strQ (w.alloc (.cells #[.string x] 9)) w.heap.size 9 1 (.slice (some ⟨w.heap.size, 0, none⟩) 1 1) [x] :=
  ⟨[[.string x]], own_new w w.heap.size 9 [.string x] 1 rfl (Nat.le_refl _) (by unfold maxLen; omega), rfl, fun i z y hz hy => by
    cases i with
    | zero => simp at hz hy; subst hz hy; rfl
    | succ i => simp at hz⟩
theorem OwnX.str {w : World} {B : Nat} {v : Value} {l : List ByteArray} (h : OwnX strQ w B 9 1 v l) : ∃ a cap, v = .slice a l.length cap ∧ l.length ≤ cap ∧ cap ≤ maxLen ∧ Lst w (· < w.heap.size) strP 1 (.slice a l.length cap) l := by
  obtain ⟨a, cap, rfl, h1, h2⟩ := h.form
  exact ⟨a, cap, rfl, h1, h2, (h.lst str_stays).keep (fun k hk => hk.lt) Keeps.refl fun _ _ _ h => h⟩

/-! ### what is seen, as mathematics -/
theorem Way.last {ms : List Mem} {a x : ByteArray} (h : Way ms a x) : x = a ∨ ∃ m ∈ ms, m.of = x := by
  induction h with
  | refl => exact .inl rfl
  | step hm _ ih =>
    rcases ih with h | h
    · exact .inr ⟨_, hm, h.symm⟩
    · exact .inr h
structure Seen (ms : List Mem) (a : ByteArray) (L : List ByteArray) : Prop where
  here : a ∈ L
  once : L.Nodup
  way : ∀ x ∈ L, Way ms a x
theorem Seen.start (ms : List Mem) (a : ByteArray) : Seen ms a [a] := ⟨by simp, by simp, fun x hx => by rw [List.mem_singleton.1 hx]; exact .refl a⟩
theorem Seen.more {ms : List Mem} {a : ByteArray} {L : List ByteArray} (h : Seen ms a L) {m : Mem} (hm : m ∈ ms) (h1 : m.role ∈ L) (h2 : m.of ∉ L) : Seen ms a (L ++ [m.of]) where
  here := List.mem_append_left _ h.here
  once := by
    rw [List.nodup_append]
    refine ⟨h.once, by simp, fun x hx y hy => ?_⟩
    rw [List.mem_singleton.1 hy]
    exact fun e => h2 (e ▸ hx)
  way x hx := by
    rcases List.mem_append.1 hx with hx | hx
    · exact h.way x hx
    · rw [List.mem_singleton.1 hx]; exact (h.way _ h1).snoc hm
theorem Seen.len {ms : List Mem} {a : ByteArray} {L : List ByteArray} (h : Seen ms a L) : L.length ≤ ms.length + 1 := by
  have : L.length ≤ (a :: ms.map (·.of)).length := nodup_len h.once fun x hx => by
    rcases (h.way x hx).last with e | ⟨m, hm, e⟩
    · rw [e]; exact List.mem_cons_self ..
    · exact List.mem_cons_of_mem _ (List.mem_map.2 ⟨m, hm, e⟩)
  simpa using this
theorem Seen.all {ms : List Mem} {a : ByteArray} {L : List ByteArray} (h : Seen ms a L) (hc : ∀ m ∈ ms, m.role ∈ L → m.of ∈ L) (x : ByteArray) : inB L x = wayB ms a x :=
  bool_same (p := Way ms a x) (by
    rw [inB_iff]
    refine ⟨h.way x, fun hw => ?_⟩
    have : ∀ {y z}, Way ms y z → y ∈ L → z ∈ L := fun {y z} hw => by
      induction hw with
      | refl => exact id
      | step hm _ ih => exact fun h1 => ih (hc _ hm h1)
    exact this hw h.here) wayB_iff
/-- A round of the search, so far. -/
structure Rnd (ms : List Mem) (a : ByteArray) (was k : Nat) (L : List ByteArray) : Prop where
  seen : Seen ms a L
  le : was ≤ L.length
  shut : was = L.length → ∀ j (h : j < ms.length), j < k → ms[j].role ∈ L → ms[j].of ∈ L
theorem Rnd.start {ms : List Mem} {a : ByteArray} {L : List ByteArray} (h : Seen ms a L) : Rnd ms a L.length 0 L := ⟨h, Nat.le_refl _, fun _ j _ hj => by omega⟩
theorem Rnd.skip {ms : List Mem} {a : ByteArray} {was k : Nat} {L : List ByteArray} (h : Rnd ms a was k L) (hk : k < ms.length) (hn : ms[k].role ∉ L ∨ ms[k].of ∈ L) : Rnd ms a was (k + 1) L :=
  ⟨h.seen, h.le, fun hw j hj hjk h1 => by
    by_cases e : j = k
    · subst e
      rcases hn with hn | hn
      · exact absurd h1 hn
      · exact hn
    · exact h.shut hw j hj (by omega) h1⟩
theorem Rnd.add {ms : List Mem} {a : ByteArray} {was k : Nat} {L : List ByteArray} (h : Rnd ms a was k L) (hk : k < ms.length) (h1 : ms[k].role ∈ L) (h2 : ms[k].of ∉ L) : Rnd ms a was (k + 1) (L ++ [ms[k].of]) :=
  ⟨h.seen.more (List.getElem_mem hk) h1 h2, by rw [List.length_append]; have := h.le; omega, fun hw => by rw [List.length_append] at hw; have := h.le; simp at hw; omega⟩
theorem Rnd.closed {ms : List Mem} {a : ByteArray} {L : List ByteArray} (h : Rnd ms a L.length ms.length L) : ∀ m ∈ ms, m.role ∈ L → m.of ∈ L := fun m hm h1 => by
  obtain ⟨j, hj, rfl⟩ := List.mem_iff_getElem.1 hm
  exact h.shut rfl j hj hj h1
def OwnSPost (w : World) (l : List ByteArray) (e : Ending) (w' : World) : Prop := ∃ v, e = .returned v ∧ OwnX strQ w' w.heap.size 9 1 v l ∧ Below w.heap.size w w'

set_option maxRecDepth 100000 in
set_option maxHeartbeats 8000000 in
theorem ref_reach_any (B : Nat) (vn vm : Value) (r : Rols) (a : ByteArray) (w : World) (h : rolP w (· < B) [vn, vm] r) (hB : B ≤ w.heap.size) (hs : smallR 3000 r) :
    Calls Try.prog 38 #[.agg #[vn, vm], .string a] w (OwnSPost w (reachL r a)) := by
  obtain ⟨is, si, si0, si1, si2⟩ := info_parts strInfo
  have hO := OpenR.start h hB
  obtain ⟨na, nn, nc, ma, mn, mc, rfl, rfl, hnn, hmn, hnc, hmc, hnc2, hmc2, hn, hm⟩ := rol_form h
  have HO := Lib.hid hO
  have x0 := hO.c0
  have x1 := hO.c1
  have HS := Lib.hid hs
  have HIN := Lib.hid (fun (W : World) (l : List ByteArray) (v : Value) (x : ByteArray) (B' : Nat) (h : OwnX strQ W B' 9 1 v l) => by
    obtain ⟨a, cap, hv, _, _, hl⟩ := h.str
    exact (by rw [hv]; exact ref_in_any a l.length cap W.heap.size l x W hl : Calls Try.prog 37 #[v, .string x] W fun e w' => e = .returned (.bool (inB l x)) ∧ W = w'))
  clear h hn hm hO hB hs
  have HST := Lib.hid (Seen.start r.mems a)
  have HS1 := Lib.hid (size_box w (.cells #[.slice na nn nc, .slice ma mn mc] 25))
  have HMN := Lib.hid hmn; have HNN := Lib.hid hnn
  go_enter Try.func38, Try.ntmps38
  go_wp2_with fail
  generalize World.alloc w _ = w1 at *
  have hs1 := HO.out.size
  have hmn3 : mn ≤ 3000 := by have := HS.out.2; omega
  have hnn3 : nn ≤ 3000 := by have := HS.out.1; omega
  have HL0 : Hid (Rnd r.mems a 0 r.mems.length [a] ∧ OwnX strQ (w1.alloc (.cells #[.string a] 9)) w1.heap.size 9 1 (.slice (some ⟨w1.heap.size, 0, none⟩) 1 1) [a] ∧ Below w1.heap.size w1 (w1.alloc (.cells #[.string a] 9))) :=
    Lib.hid ⟨⟨HST.out, by simp, fun h => by simp at h⟩, lit_own w1 a, (Below.refl _ w1).alloc (Nat.le_refl _) _⟩
  clear x0 x1 hs1 hnn hmn hnc hmc hnc2 hmc2
  generalize World.alloc w1 _ = w2 at *
  go_loopw [5, 6] (fun v n wr => ∃ (L : List ByteArray) (was : Nat) (va : Option Addr) (cap : Nat), v = .slice va L.length cap ∧ n = .int .i64 was ∧ Hid (Rnd r.mems a was r.mems.length L ∧ OwnX strQ wr w1.heap.size 9 1 (.slice va L.length cap) L ∧ Below w1.heap.size w1 wr)) (fun _ n _ => (mn + 2) - (intOf n).toNat)
  case atStart =>
    refine ⟨[a], 0, _, _, rfl, rfl, ?_⟩
    have h := HL0.out
    rw [HS1.out] at h
    exact Lib.hid ⟨h.1, by rw [HS1.out]; exact h.2.1, by rw [HS1.out]; exact h.2.2⟩
  case round =>
    clear HL0
    obtain ⟨L, was, va, cap, rfl, rfl, HR⟩ := hrel
    obtain ⟨hr0, hx0, hb0⟩ := HR.out
    have hle := hr0.le
    have hlen := hr0.seen.len
    rw [HMN.out] at hlen
    by_cases hlt : was < L.length
    · have k1 : ((was : Int) < (L.length : Int)) := by omega
      have HWL := Lib.hid hlt
      have HLEN := Lib.hid hlen
      have HI0 : Hid (Rnd r.mems a L.length 0 L ∧ OwnX strQ wr w1.heap.size 9 1 (.slice va L.length cap) L ∧ Below w1.heap.size w1 wr) := Lib.hid ⟨Rnd.start hr0.seen, hx0, hb0⟩
      obtain ⟨was1, hwas1⟩ : ∃ m, L.length = m := ⟨_, rfl⟩
      have HW1 := Lib.hid hwas1
      rw [hwas1] at HI0 k1 ⊢
      clear hr0 hx0 hb0 hle hlen HR hlt hwas1
      go_wp2_with fail
      go_loopw [5, 7] (fun v i wx => ∃ (L : List ByteArray) (k : Nat) (va : Option Addr) (cap : Nat), v = .slice va L.length cap ∧ i = .int .i64 k ∧ k ≤ mn ∧ Hid (Rnd r.mems a was1 k L ∧ OwnX strQ wx w1.heap.size 9 1 (.slice va L.length cap) L ∧ Below w1.heap.size w1 wx)) (fun _ i _ => mn - (intOf i).toNat)
      case atStart => exact ⟨L, 0, va, cap, by rw [HW1.out], rfl, Nat.zero_le _, by rw [HW1.out]; exact HI0⟩
      case round =>
        clear HI0
        obtain ⟨L2, k, va2, cap2, rfl, rfl, hk, HR2⟩ := hrel
        obtain ⟨hr2, hx2, hb2⟩ := HR2.out
        have ho2 := HO.out.on hb2
        have x1 := ho2.c1
        by_cases hlt : k < mn
        · have lk : k < r.mems.length := by rw [HMN.out]; exact hlt
          obtain ⟨_, _, _, _, _, _, _, _, _, _, _, _, _, _, _, hm2⟩ := rol_form ho2.rol
          obtain ⟨b, q, x, rfl, hbB, hx, hcl⟩ := hm2.at lk
          have k0 : (0 : Int) ≤ (k : Int) := by omega
          have k1 : (k : Int) < (mn : Int) := by omega
          have hsk := fun h => hr2.skip lk h
          have had := fun h1 h2 => hr2.add lk h1 h2
          generalize r.mems[k] = y at *
          obtain ⟨yr, yo⟩ := y
          obtain rfl : x = [.string yr, .string yo] := hx
          have c0 : wr.cell? ⟨b, q + k * 2, none⟩ = _ := hcl 0 _ rfl
          have c1 := hcl 1 _ rfl
          obtain ⟨e0, e1⟩ := box_two wr (.string yr) (.string yo) 45
          have hal := (Below.refl wr.heap.size wr).alloc (Nat.le_refl _) (.cells #[.string yr, .string yo] 45)
          have hx3 := hx2.below str_stays hal
          have HC1 := Lib.hid (HIN.out _ L2 _ yr _ hx3)
          have HC2 := Lib.hid (HIN.out _ L2 _ yo _ hx3)
          have HX3 := Lib.hid hx3; have HX2 := Lib.hid hx2; have HB3 := Lib.hid (below_on hb2 (Nat.le_refl _) hal)
          have HKN := Lib.hid (show k + 1 ≤ mn by omega)
          have HSZ := Lib.hid (size_box wr (.cells #[.string yr, .string yo] 45))
          have hlen2 := hr2.seen.len
          rw [HMN.out] at hlen2
          have HLN := Lib.hid hlen2
          simp only at hsk had
          clear hcl hx3 hx2 hb2 hm2 ho2 hal hr2 HR2 hlen2
          cases hq1 : inB L2 yr with
          | false =>
            have HN := Lib.hid (And.intro (hsk (.inl fun h => by rw [inB_iff.2 h] at hq1; cases hq1)) (And.intro HX3.out HB3.out))
            rw [hq1] at HC1
            clear hsk had hq1
            go_wp2_with fail
            refine HC1.out.mono ?_
            rintro e w' ⟨rfl, rfl⟩
            go_wp2_with fail
            go_roundw
            case rel => exact ⟨L2, k + 1, _, _, rfl, by go_num, HKN.out, HN⟩
            case measure => have := HKN.out; simp [intOf]; omega
          | true =>
            rw [hq1] at HC1
            cases hq2 : inB L2 yo with
            | true =>
              have HN := Lib.hid (And.intro (hsk (.inr (inB_iff.1 hq2))) (And.intro HX3.out HB3.out))
              rw [hq2] at HC2
              clear hsk had hq1 hq2
              go_wp2_with fail
              refine HC1.out.mono ?_
              rintro e w' ⟨rfl, rfl⟩
              go_wp2_with fail
              refine HC2.out.mono ?_
              rintro e w' ⟨rfl, rfl⟩
              go_wp2_with fail
              go_roundw
              case rel => exact ⟨L2, k + 1, _, _, rfl, by go_num, HKN.out, HN⟩
              case measure => have := HKN.out; simp [intOf]; omega
            | false =>
              have HN := Lib.hid (had (inB_iff.1 hq1) (fun h => by rw [inB_iff.2 h] at hq2; cases hq2))
              rw [hq2] at HC2
              have hal4 := (Below.refl _ (wr.alloc (.cells #[.string yr, .string yo] 45))).alloc (Nat.le_refl _) (.cells #[.string yo] 9)
              have HLIT := Lib.hid (lit_str (wr.alloc (.cells #[.string yr, .string yo] 45)) yo)
              have hx4 := HX3.out.below str_stays hal4
              have HX4 := Lib.hid hx4
              have HB4 := Lib.hid (below_on HB3.out (Nat.le_refl _) hal4)
              have hz4 : w1.heap.size ≤ ((wr.alloc (.cells #[.string yr, .string yo] 45)).alloc (.cells #[.string yo] 9)).heap.size := HB4.out.size
              have HZ4 := Lib.hid hz4
              have hm4 : L2.length + 1 ≤ maxLen := by have := HLN.out; unfold maxLen; omega
              have hby4 : ((L2.length + 1) + (L2.length + 1) / 4 + 192) * 16 ≤ 281474976710656 := by have := HLN.out; omega
              have HM4 := Lib.hid hm4; have HBY4 := Lib.hid hby4
              clear hsk had hq1 hq2 hal4 hx4 hz4 hm4 hby4
              go_wp2_with fail
              refine HC1.out.mono ?_
              rintro e w' ⟨rfl, rfl⟩
              go_wp2_with fail
              refine HC2.out.mono ?_
              rintro e w' ⟨rfl, rfl⟩
              rw [HSZ.out] at HLIT
              go_wp2_with (at_builtin; refine wpList_append_flat rfl _ _ 22 rfl w1.heap.size 9 is _ 1 16 Try.underlying22 si si0 si1 si2 rfl (by decide) str_stays (fun h => h) rfl HX4.out rfl HLIT.out HM4.out HBY4.out HZ4.out ?_)
              intro v5 w5 hx5 hb5 _
              have hx5' := hx5
              obtain ⟨va5, cap5, rfl, _, _⟩ := hx5'.form
              have HF := Lib.hid (And.intro HN.out (And.intro hx5 (HB4.out.trans hb5)))
              clear hx5 hb5 hx5'
              go_wp2_with fail
              go_roundw
              case rel => exact ⟨L2 ++ [yo], k + 1, _, _, rfl, by go_num, HKN.out, HF⟩
              case measure => have := HKN.out; simp [intOf]; omega
        · obtain rfl : mn = k := by omega
          have HN : Hid (Rnd r.mems a was1 r.mems.length L2 ∧ OwnX strQ wr w1.heap.size 9 1 (.slice va2 L2.length cap2) L2 ∧ Below w1.heap.size w1 wr) := Lib.hid ⟨by rw [HMN.out]; exact hr2, hx2, hb2⟩
          clear hr2 hx2 hb2 HR2 ho2
          go_wp2_with fail
          go_roundw
          case rel => exact ⟨L2, was1, _, _, rfl, rfl, HN⟩
          case measure => have := HW1.out; have := HWL.out; have := HLEN.out; simp [intOf]; omega
    · have k1 : ¬ ((was : Int) < (L.length : Int)) := by omega
      obtain rfl : was = L.length := by omega
      have HALL := Lib.hid (fun x => hr0.seen.all hr0.closed x)
      have HX0 := Lib.hid hx0; have HB0 := Lib.hid hb0
      have HA0 : Hid (OwnX strQ wr wr.heap.size 9 1 (.slice none 0 0) ([] : List ByteArray) ∧ Below wr.heap.size wr wr) := Lib.hid ⟨OwnX.nil _ _ _ _ _, Below.refl _ _⟩
      clear hr0 hx0 hb0 HR hle hlen
      go_wp2_with fail
      generalize wr = wP at *
      go_loopw [9, 10] (fun v i wr => ∃ (acc : List ByteArray) (k : Nat) (va' : Option Addr) (cap' : Nat), v = .slice va' acc.length cap' ∧ i = .int .i64 k ∧ k ≤ nn ∧ Hid (acc = (r.names.take k).filter (inB L) ∧ OwnX strQ wr wP.heap.size 9 1 (.slice va' acc.length cap') acc ∧ Below wP.heap.size wP wr)) (fun _ i _ => nn - (intOf i).toNat)
      case atStart => exact ⟨[], 0, none, 0, rfl, rfl, Nat.zero_le _, Lib.hid ⟨by simp, HA0.out⟩⟩
      case round =>
        clear HA0
        obtain ⟨acc, k, va', cap', rfl, rfl, hk, HR⟩ := hrel
        obtain ⟨hac, hx, hb⟩ := HR.out
        have hbw := below_on HB0.out (Nat.le_refl _) hb
        have ho2 := HO.out.on hbw
        have x0 := ho2.c0
        by_cases hlt : k < nn
        · have lk : k < r.names.length := by rw [HNN.out]; exact hlt
          obtain ⟨_, _, _, _, _, _, _, _, _, _, _, _, _, _, hn2, _⟩ := rol_form ho2.rol
          obtain ⟨b, q, x, rfl, hbB, hxx, hcl⟩ := hn2.at lk
          have k0 : (0 : Int) ≤ (k : Int) := by omega
          have k1 : (k : Int) < (nn : Int) := by omega
          have hfl : (r.names.take (k + 1)).filter (inB L) = (r.names.take k).filter (inB L) ++ (if inB L r.names[k] then [r.names[k]] else []) := by
            rw [List.take_succ_eq_append_getElem lk, List.filter_append, List.filter_cons]
            split <;> simp_all
          have hal : acc.length ≤ k := by rw [hac]; exact Nat.le_trans (List.length_filter_le _ _) (List.length_take_le _ _)
          generalize r.names[k] = y at *
          obtain rfl : x = [.string y] := hxx
          have c0 : wr.cell? ⟨b, q + k, none⟩ = some (.string y) := by have := hcl 0 _ rfl; simpa using this
          have HC1 := Lib.hid (HIN.out _ L _ y _ (HX0.out.below str_stays hb))
          have HX := Lib.hid hx; have HB := Lib.hid hb; have HAC := Lib.hid hac; have HFL := Lib.hid hfl; have HAL := Lib.hid hal
          have HKN := Lib.hid (show k + 1 ≤ nn by omega)
          clear hcl hx hb hbw hn2 ho2 hac hfl HR hal
          cases hq : inB L y with
          | false =>
            have HN := Lib.hid (And.intro (show acc = (r.names.take (k + 1)).filter (inB L) by rw [HFL.out, hq, HAC.out]; simp) (And.intro HX.out HB.out))
            rw [hq] at HC1
            clear hq
            go_wp2_with fail
            refine HC1.out.mono ?_
            rintro e w' ⟨rfl, rfl⟩
            go_wp2_with fail
            go_roundw
            case rel => exact ⟨acc, k + 1, _, _, rfl, by go_num, HKN.out, HN⟩
            case measure => have := HKN.out; simp [intOf]; omega
          | true =>
            have HN := Lib.hid (show acc ++ [y] = (r.names.take (k + 1)).filter (inB L) by rw [HFL.out, hq, HAC.out]; simp)
            rw [hq] at HC1
            have hal4 := (Below.refl _ wr).alloc (Nat.le_refl _) (.cells #[.string y] 9)
            have HLIT := Lib.hid (lit_str wr y)
            have HX4 := Lib.hid (HX.out.below str_stays hal4)
            have HB4 := Lib.hid (below_on HB.out (Nat.le_refl _) hal4)
            have HZ4 := Lib.hid (show wP.heap.size ≤ (wr.alloc (.cells #[.string y] 9)).heap.size from HB4.out.size)
            have HM4 := Lib.hid (show acc.length + 1 ≤ maxLen by have := HAL.out; unfold maxLen; omega)
            have HBY4 := Lib.hid (show ((acc.length + 1) + (acc.length + 1) / 4 + 192) * 16 ≤ 281474976710656 by have := HAL.out; omega)
            clear hq hal4
            go_wp2_with fail
            refine HC1.out.mono ?_
            rintro e w' ⟨rfl, rfl⟩
            go_wp2_with (at_builtin; refine wpList_append_flat rfl _ _ 22 rfl wP.heap.size 9 is _ 1 16 Try.underlying22 si si0 si1 si2 rfl (by decide) str_stays (fun h => h) rfl HX4.out rfl HLIT.out HM4.out HBY4.out HZ4.out ?_)
            intro v5 w5 hx5 hb5 _
            have hx5' := hx5
            obtain ⟨va5, cap5, rfl, _, _⟩ := hx5'.form
            have HF := Lib.hid (And.intro HN.out (And.intro hx5 (HB4.out.trans hb5)))
            clear hx5 hb5 hx5'
            go_wp2_with fail
            go_roundw
            case rel => exact ⟨acc ++ [y], k + 1, _, _, rfl, by go_num, HKN.out, HF⟩
            case measure => have := HKN.out; simp [intOf]; omega
        · obtain rfl : nn = k := by omega
          have HF : Hid (OwnX strQ wr w.heap.size 9 1 (.slice va' acc.length cap') (reachL r a) ∧ Below w.heap.size w wr) := Lib.hid ⟨by
            have e : acc = reachL r a := by
              rw [hac, ← HNN.out, List.take_length]
              unfold reachL
              exact List.filter_congr fun x _ => HALL.out x
            rw [← e]
            exact hx.mono str_stays (Nat.le_trans HO.out.below.size HB0.out.size), ho2.below⟩
          clear hac hx hb hbw ho2 HR
          go_wp2_with fail
          go_ret
          exact ⟨_, rfl, HF.out.1, HF.out.2⟩
end Go.Proofs.Ytekhkmhpeefenaa
