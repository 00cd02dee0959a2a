/-
  The document's reader, by contract: its fields (number, whole, text, flag, many).
-/
import Derived.Test.YtbhpbiimfcdgaaaGreatWireQ
import Derived.Test.YtbhpbiimfcdgaaaGreatRefCut
namespace Go.Proofs.YtbhpbiimfcdgaaaGreat
open Go.RowKit
set_option linter.unusedVariables false

/-- Cells of the right kinds. -/
def Typed : Sh → List Value → Prop
  | .num, cs => ∃ n : Int, cs = [.int .i64 n]
  | .whole, cs => ∃ n : Int, cs = [.int .i64 n]
  | .text, cs => ∃ s : ByteArray, cs = [.string s]
  | .flag, cs => ∃ b : Bool, cs = [.bool b]
  | .two a b, cs => ∃ ca cb, cs = ca ++ cb ∧ Typed a ca ∧ Typed b cb
  | .list _, cs => ∃ (a : Option Addr) (l c : Nat), cs = [.slice a l c]
theorem Typed.one : ∀ {sh : Sh} {cs : List Value}, Typed sh cs → ∀ v ∈ cs, v.oneCell' = true := by
  intro sh
  induction sh with
  | num => rintro cs ⟨n, rfl⟩ v hv; rw [List.mem_singleton.1 hv]; rfl
  | whole => rintro cs ⟨n, rfl⟩ v hv; rw [List.mem_singleton.1 hv]; rfl
  | text => rintro cs ⟨n, rfl⟩ v hv; rw [List.mem_singleton.1 hv]; rfl
  | flag => rintro cs ⟨n, rfl⟩ v hv; rw [List.mem_singleton.1 hv]; rfl
  | two a b iha ihb =>
    rintro cs ⟨ca, cb, rfl, h3, h4⟩ v hv
    rcases List.mem_append.1 hv with hv | hv
    · exact iha h3 v hv
    · exact ihb h4 v hv
  | list e ih => rintro cs ⟨a, l, c, rfl⟩ v hv; rw [List.mem_singleton.1 hv]; rfl

/-- All blocks but p and c. -/
def Off2 (p c k : Nat) : Prop := k ≠ p ∧ k ≠ c
/-- Block p is the document's reader over 'bs' (through block c), at place 'i'; bad: something was wrong. -/
def Cu (w : World) (p c B : Nat) (bs : List UInt8) (i : Nat) (bad : Bool) : Prop :=
  B ≤ p ∧ p ≠ c ∧ w.heap[p]? = some (.cells #[.pointer (some ⟨c, 0, none⟩), .bool bad] 124 (0, 0)) ∧ IsC w c B bs i
section
variable {w w' : World} {p c B i : Nat} {bs : List UInt8} {bad : Bool}
theorem Cu.ltp (h : Cu w p c B bs i bad) : p < w.heap.size := lt_of_block h.2.2.1
theorem Cu.ltc (h : Cu w p c B bs i bad) : c < w.heap.size := h.2.2.2.lt
theorem Cu.keep (h : Cu w p c B bs i bad) (hk : ∀ k, k < w.heap.size → k < B ∨ k = p ∨ k = c → w'.heap[k]? = w.heap[k]?) : Cu w' p c B bs i bad := by
  have hB : B ≤ w.heap.size := by have := h.1; have := h.ltp; omega
  exact ⟨h.1, h.2.1, (hk p h.ltp (.inr (.inl rfl))).trans h.2.2.1, h.2.2.2.keep (hk c h.ltc (.inr (.inr rfl))) (fun k hk' => hk k (by omega) (.inl hk'))⟩
theorem Cu.below (h : Cu w p c B bs i bad) (hb : Below w.heap.size w w') : Cu w' p c B bs i bad := h.keep fun k hk _ => hb.block k hk
theorem Cu.alloc (h : Cu w p c B bs i bad) (o : Obj) : Cu (w.alloc o) p c B bs i bad := h.below ((Below.refl _ _).alloc (Nat.le_refl _) o)
theorem Cu.drewN (h : Cu w p c B bs i bad) (n : Nat) : Cu (w.drewN n) p c B bs i bad := h.keep fun _ _ _ => rfl
/-- A block of one's own is turned. -/
theorem Cu.setOwn (h : Cu w p c B bs i bad) {g : Nat} (hg : B ≤ g ∧ g ≠ p ∧ g ≠ c) (hk : ∀ k, k ≠ g → w'.heap[k]? = w.heap[k]?) : Cu w' p c B bs i bad := h.keep fun k _ h => hk k (by omega)
theorem Cu.open_ (h : Cu w p c B bs i bad) : w.cell? ⟨p, 0, none⟩ = some (.pointer (some ⟨c, 0, none⟩)) ∧ w.cell? ⟨p, 1, none⟩ = some (.bool bad) ∧ w.frozen? ⟨p, 1, none⟩ = false :=
  ⟨by simpa using cell_of_row w p 0 _ _ _ h.2.2.1, by simpa using cell_of_row w p 1 _ _ _ h.2.2.1, frozen_of_row w p 1 _ _ h.2.2.1⟩
theorem Cu.mark (h : Cu w p c B bs i bad) (b : Bool) : Cu (w.setCell ⟨p, 1, none⟩ (.bool b)) p c B bs i b ∧ Keeps (Off2 p c) w (w.setCell ⟨p, 1, none⟩ (.bool b)) := by
  obtain ⟨h1, h2, h3, h4⟩ := h
  have hh := heap_setCell_same w p 1 _ _ (.bool b) h3
  have e : ∀ k, k ≠ p → (w.setCell ⟨p, 1, none⟩ (.bool b)).heap[k]? = w.heap[k]? := fun k hk => Below.heap_setCell _ _ _ _ (by simpa using hk)
  exact ⟨⟨h1, h2, by simpa using hh, h4.keep (e c (fun h => h2 h.symm)) (fun k hk => e k (by omega))⟩, Keeps.refl.setCell (p := ⟨p, 1, none⟩) (fun h => h.1 rfl) _⟩
/-- Its inner reader has gone on. -/
theorem Cu.on {j : Nat} (h : Cu w p c B bs i bad) (hC : IsC w' c B bs j) (hg : w.grownBy w' (some c)) : Cu w' p c B bs j bad ∧ Keeps (Off2 p c) w w' := by
  obtain ⟨h1, h2, h3, h4⟩ := h
  exact ⟨⟨h1, h2, (hg.block p (lt_of_block h3) (fun e => h2 (by simpa using e))).trans h3, hC⟩, Keeps.of_grown hg fun k hk h => h.2 (by simpa using hk.symm)⟩
end

/-- What was read (from place i on) stands, or something is wrong. -/
def CStep (bs : List UInt8) (sh : Sh) (i : Nat) (bad : Bool) (j : Nat) (bad' : Bool) : Prop :=
  (bad = false ∧ bad' = false ∧ ∃ ts, parse sh (bs.drop i) = some (ts, bs.drop j)) ∨ (bad' = true ∧ (bad = true ∨ parse sh (bs.drop i) = none))
theorem CStep.two {bs : List UInt8} {a b : Sh} {i j k : Nat} {b0 b1 b2 : Bool} (h : CStep bs a i b0 j b1) (g : CStep bs b j b1 k b2) : CStep bs (.two a b) i b0 k b2 := by
  rcases h with ⟨h1, h2, ts, h3⟩ | ⟨h1, h2⟩
  · rcases g with ⟨g1, g2, us, g3⟩ | ⟨g1, g2⟩
    · exact .inl ⟨h1, g2, _, parse_both h3 g3⟩
    · refine .inr ⟨g1, .inr ?_⟩
      rcases g2 with g2 | g2
      · rw [h2] at g2; cases g2
      · exact parse_snd h3 g2
  · rcases g with ⟨g1, _⟩ | ⟨g1, _⟩
    · rw [h1] at g1; cases g1
    · refine .inr ⟨g1, ?_⟩
      rcases h2 with h2 | h2
      · exact .inl h2
      · exact .inr (parse_fst h2)
def CPost (w : World) (p c B : Nat) (bs : List UInt8) (sh : Sh) (i : Nat) (bad : Bool) (val : List Value → Value) (e : Ending) (w' : World) : Prop :=
  Keeps (Off2 p c) w w' ∧ ∃ j bad' cs, e = .returned (val cs) ∧ Typed sh cs ∧ Cu w' p c B bs j bad' ∧ CStep bs sh i bad j bad'

theorem num_parse (bs : List UInt8) : (numE bs = 0 ∧ pNum 1000000000 bs = some ((numV bs).toNat, bs.drop (numK bs)) ∧ 0 ≤ numV bs) ∨ (numE bs ≠ 0 ∧ pNum 1000000000 bs = none) := by
  by_cases hl : bs.length < 4
  · obtain ⟨f1, f2, f3⟩ := num_short hl
    exact .inr ⟨by rw [f2]; decide, by unfold pNum; rw [if_pos (.inl hl)]⟩
  · by_cases hm : 1000000000 < le (bs.take 4)
    · obtain ⟨f1, f2, f3⟩ := num_form hl hm
      exact .inr ⟨by rw [f2]; decide, by unfold pNum; rw [if_pos (.inr hm)]⟩
    · obtain ⟨f1, f2, f3⟩ := num_ok hl hm
      refine .inl ⟨f2, ?_, by rw [f1]; omega⟩
      unfold pNum
      rw [if_neg (by omega), f1, f3]
      simp
theorem drop_drop' (bs : List UInt8) (i k : Nat) : (bs.drop i).drop k = bs.drop (i + k) := by rw [List.drop_drop]

theorem set_cell1 {w : World} {b : Nat} {v : Value} (h : w.cell? ⟨b, 1, none⟩ = some v) (u : Value) : (w.setCell ⟨b, 1, none⟩ u).cell? ⟨b, 1, none⟩ = some u := World.cell?_setCell_same _ _ _ h

set_option maxRecDepth 100000 in
theorem c_number (p c : Nat) (B : Nat) (bs : List UInt8) (i : Nat) (bad : Bool) (w : World) (h : Cu w p c B bs i bad) :
    Calls Tryz.prog 42 #[.pointer (some ⟨p, 0, none⟩)] w (fun e w' => Keeps (Off2 p c) w w' ∧ ∃ j bad', e = .returned (.int .i64 (numV (bs.drop i))) ∧ Cu w' p c B bs j bad' ∧ CStep bs .num i bad j bad' ∧ (bad' = false → pNum 1000000000 (bs.drop i) = some ((numV (bs.drop i)).toNat, bs.drop j) ∧ 0 ≤ numV (bs.drop i))) := by
  obtain ⟨c0, c1, f1⟩ := h.open_
  have hnp := num_parse (bs.drop i)
  have HNP := Lib.hid hnp; clear hnp
  go_enter Tryz.func42, Tryz.ntmps42
  go_wp2_with fail
  refine (cut_number c B i bs w h.2.2.2).mono ?_
  rintro e w1 ⟨rfl, hC, hg⟩
  obtain ⟨h1, hK⟩ := h.on hC hg
  obtain ⟨_, d1, g1⟩ := h1.open_
  generalize hE : numE (bs.drop i) = E at *
  generalize hV : numV (bs.drop i) = V at *
  have HE := Lib.hid hE; clear hE
  have HV := Lib.hid hV; clear hV
  cases bad with
  | true =>
    obtain ⟨h2, hK2⟩ := h1.mark true
    have H2 := Lib.hid h2; clear h2
    go_wp2_with fail
    go_ret
    exact ⟨hK.trans hK2, _, _, by rw [HV.out]; rfl, H2.out, .inr ⟨rfl, .inl rfl⟩, fun h => by cases h⟩
  | false =>
    rcases HNP.out with ⟨hE, hp, h0⟩ | ⟨hE, hp⟩
    · obtain ⟨h2, hK2⟩ := h1.mark false
      have H2 := Lib.hid h2; clear h2
      have HP : Hid (pNum 1000000000 (bs.drop i) = some (V.toNat, bs.drop (i + numK (bs.drop i)))) := by rw [← drop_drop']; exact Lib.hid hp
      clear hp
      subst hE
      go_wp2_with fail
      go_ret
      refine ⟨hK.trans hK2, _, _, by rw [HV.out]; rfl, H2.out, .inl ⟨rfl, rfl, [.num (V.toNat : Int)], ?_⟩, fun _ => ⟨by rw [HV.out]; exact HP.out, by rw [HV.out]; exact h0⟩⟩
      simp only [parse, HP.out]
    · obtain ⟨h2, hK2⟩ := h1.mark true
      have H2 := Lib.hid h2; clear h2
      have HP := Lib.hid hp; clear hp
      have hne : (E != 0) = true := by simpa using hE
      go_wp2_with fail
      go_ret
      exact ⟨hK.trans hK2, _, _, by rw [HV.out]; rfl, H2.out, .inr ⟨rfl, .inr (by simp only [parse, HP.out])⟩, fun h => by cases h⟩

theorem int_parse (bs : List UInt8) : (intE bs = 0 ∧ parse .whole bs = some ([.whole (intV bs)], bs.drop (intK bs))) ∨ (intE bs ≠ 0 ∧ parse .whole bs = none) := by
  by_cases hl : bs.length < 8
  · obtain ⟨f1, f2, f3⟩ := int_short hl
    exact .inr ⟨by rw [f2]; decide, by simp only [parse]; rw [if_pos hl]⟩
  · obtain ⟨f1, f2, f3⟩ := int_ok hl
    exact .inl ⟨f2, by simp only [parse]; rw [if_neg hl, f1, f3]⟩
theorem txt_parse (bs : List UInt8) : (txtE bs = 0 ∧ parse .text bs = some ([.text (txtV bs)], bs.drop (txtK bs))) ∨ (txtE bs ≠ 0 ∧ parse .text bs = none) := by
  by_cases hl : bs.length < 4
  · obtain ⟨f1, f2, f3⟩ := txt_short hl
    exact .inr ⟨by rw [f2]; decide, by simp only [parse, pNum]; rw [if_pos (.inl hl)]⟩
  · by_cases hm : 65536 < le (bs.take 4)
    · obtain ⟨f1, f2, f3⟩ := txt_form hl hm
      exact .inr ⟨by rw [f2]; decide, by simp only [parse, pNum]; rw [if_pos (.inr hm)]⟩
    · have hp : pNum 65536 bs = some (le (bs.take 4), bs.drop 4) := by unfold pNum; rw [if_neg (by omega)]
      by_cases hs : bs.length < 4 + le (bs.take 4)
      · obtain ⟨f1, f2, f3⟩ := txt_end hl hm hs
        exact .inr ⟨by rw [f2]; decide, by simp only [parse, hp]; rw [if_pos (by rw [List.length_drop]; omega)]⟩
      · obtain ⟨f1, f2, f3⟩ := txt_ok hl hm hs
        exact .inl ⟨f2, by simp only [parse, hp]; rw [if_neg (by rw [List.length_drop]; omega), f1, f3, List.drop_drop]⟩

set_option maxRecDepth 100000 in
theorem c_whole (p c : Nat) (B : Nat) (bs : List UInt8) (i : Nat) (bad : Bool) (w : World) (h : Cu w p c B bs i bad) :
    Calls Tryz.prog 111 #[.pointer (some ⟨p, 0, none⟩)] w (CPost w p c B bs .whole i bad one) := by
  obtain ⟨c0, c1, f1⟩ := h.open_
  have hnp := int_parse (bs.drop i)
  have HNP := Lib.hid hnp; clear hnp
  go_enter Tryz.func111, Tryz.ntmps111
  go_wp2_with fail
  refine (cut_int c B i bs w h.2.2.2).mono ?_
  rintro e w1 ⟨rfl, hC, hg⟩
  obtain ⟨h1, hK⟩ := h.on hC hg
  obtain ⟨_, d1, g1⟩ := h1.open_
  generalize hE : intE (bs.drop i) = E at *
  generalize hV : intV (bs.drop i) = V at *
  have HE := Lib.hid hE; clear hE
  have HV := Lib.hid hV; clear hV
  cases bad with
  | true =>
    obtain ⟨h2, hK2⟩ := h1.mark true
    have H2 := Lib.hid h2; clear h2
    go_wp2_with fail
    go_ret
    exact ⟨hK.trans hK2, _, _, [.int .i64 V], rfl, ⟨_, rfl⟩, H2.out, .inr ⟨rfl, .inl rfl⟩⟩
  | false =>
    rcases HNP.out with ⟨hE, hp⟩ | ⟨hE, hp⟩
    · obtain ⟨h2, hK2⟩ := h1.mark false
      have H2 := Lib.hid h2; clear h2
      rw [drop_drop'] at hp
      have HP := Lib.hid hp; clear hp
      subst hE
      go_wp2_with fail
      go_ret
      exact ⟨hK.trans hK2, _, _, [.int .i64 V], rfl, ⟨_, rfl⟩, H2.out, .inl ⟨rfl, rfl, _, HP.out⟩⟩
    · obtain ⟨h2, hK2⟩ := h1.mark true
      have H2 := Lib.hid h2; clear h2
      have HP := Lib.hid hp; clear hp
      have hne : (E != 0) = true := by simpa using hE
      go_wp2_with fail
      go_ret
      exact ⟨hK.trans hK2, _, _, [.int .i64 V], rfl, ⟨_, rfl⟩, H2.out, .inr ⟨rfl, .inr HP.out⟩⟩

set_option maxRecDepth 100000 in
theorem c_text (p c : Nat) (B : Nat) (bs : List UInt8) (i : Nat) (bad : Bool) (w : World) (h : Cu w p c B bs i bad) :
    Calls Tryz.prog 46 #[.pointer (some ⟨p, 0, none⟩)] w (CPost w p c B bs .text i bad one) := by
  obtain ⟨c0, c1, f1⟩ := h.open_
  have hnp := txt_parse (bs.drop i)
  have HNP := Lib.hid hnp; clear hnp
  go_enter Tryz.func46, Tryz.ntmps46
  go_wp2_with fail
  refine (cut_text c B i bs w h.2.2.2).mono ?_
  rintro e w1 ⟨rfl, hC, hg⟩
  obtain ⟨h1, hK⟩ := h.on hC hg
  obtain ⟨_, d1, g1⟩ := h1.open_
  generalize hE : txtE (bs.drop i) = E at *
  generalize hV : ByteArray.mk (txtV (bs.drop i)).toArray = V at *
  have HE := Lib.hid hE; clear hE
  cases bad with
  | true =>
    obtain ⟨h2, hK2⟩ := h1.mark true
    have H2 := Lib.hid h2; clear h2
    go_wp2_with fail
    go_ret
    exact ⟨hK.trans hK2, _, _, [.string V], rfl, ⟨_, rfl⟩, H2.out, .inr ⟨rfl, .inl rfl⟩⟩
  | false =>
    rcases HNP.out with ⟨hE, hp⟩ | ⟨hE, hp⟩
    · obtain ⟨h2, hK2⟩ := h1.mark false
      have H2 := Lib.hid h2; clear h2
      rw [drop_drop'] at hp
      have HP := Lib.hid hp; clear hp
      subst hE
      go_wp2_with fail
      go_ret
      exact ⟨hK.trans hK2, _, _, [.string V], rfl, ⟨_, rfl⟩, H2.out, .inl ⟨rfl, rfl, _, HP.out⟩⟩
    · obtain ⟨h2, hK2⟩ := h1.mark true
      have H2 := Lib.hid h2; clear h2
      have HP := Lib.hid hp; clear hp
      have hne : (E != 0) = true := by simpa using hE
      go_wp2_with fail
      go_ret
      exact ⟨hK.trans hK2, _, _, [.string V], rfl, ⟨_, rfl⟩, H2.out, .inr ⟨rfl, .inr HP.out⟩⟩

/-- Behind a list's number. -/
def CMany (w : World) (p c B : Nat) (bs : List UInt8) (i : Nat) (bad : Bool) (e : Ending) (w' : World) : Prop :=
  Keeps (Off2 p c) w w' ∧ ∃ (n j : Nat) (bad' : Bool), e = .returned (.int .i64 (n : Int)) ∧ n ≤ 4096 ∧ Cu w' p c B bs j bad' ∧
    ((bad = false ∧ bad' = false ∧ pNum 4096 (bs.drop i) = some (n, bs.drop j)) ∨ (bad' = true ∧ (bad = true ∨ pNum 4096 (bs.drop i) = none)))
set_option maxRecDepth 100000 in
theorem c_many (p c : Nat) (B : Nat) (bs : List UInt8) (i : Nat) (bad : Bool) (w : World) (h : Cu w p c B bs i bad) :
    Calls Tryz.prog 45 #[.pointer (some ⟨p, 0, none⟩)] w (CMany w p c B bs i bad) := by
  have hc := Lib.hid (pNum_cases 4096 (by omega) (bs.drop i))
  go_enter Tryz.func45, Tryz.ntmps45
  go_wp2_with fail
  refine (c_number p c B bs i bad w h).mono ?_
  rintro e w1 ⟨hK, j, bad1, rfl, h1, hs, hn⟩
  obtain ⟨_, d1, g1⟩ := h1.open_
  generalize hV : numV (bs.drop i) = V at *
  have HV := Lib.hid hV; clear hV
  cases bad1 with
  | true =>
    obtain ⟨h2, hK2⟩ := h1.mark true
    have hset := set_cell1 d1 (.bool true)
    have H2 := Lib.hid h2; clear h2
    have hbad : bad = true ∨ pNum 4096 (bs.drop i) = none := by
      rcases hs with ⟨_, h, _⟩ | ⟨_, h | h⟩
      · cases h
      · exact .inl h
      · rcases hc.out with ⟨n, r, hq, _⟩ | ⟨_, hq⟩
        · simp only [parse, hq] at h; cases h
        · exact .inr hq
    have HBAD := Lib.hid hbad; clear hbad hs hn
    go_wp2_with fail
    go_ret
    exact ⟨hK.trans hK2, 0, _, _, rfl, by omega, H2.out, .inr ⟨rfl, HBAD.out⟩⟩
  | false =>
    obtain ⟨hp, h0⟩ := hn rfl
    have hb0 : bad = false := by
      rcases hs with ⟨h, _⟩ | ⟨h, _⟩
      · exact h
      · cases h
    obtain ⟨m, rfl⟩ : ∃ m : Nat, V = m := ⟨V.toNat, by omega⟩
    rw [Int.toNat_natCast] at hp
    have HB0 := Lib.hid hb0; clear hb0 hs hn
    by_cases hm : 4096 < m
    · obtain ⟨h2, hK2⟩ := h1.mark true
      have hset := set_cell1 d1 (.bool true)
      have H2 := Lib.hid h2; clear h2
      have hq : pNum 4096 (bs.drop i) = none := by
        rcases hc.out with ⟨n, r, hq, _, ⟨hle, _⟩ | ⟨_, hq2⟩⟩ | ⟨_, hq⟩
        · rw [hp] at hq; simp only [Option.some.injEq, Prod.mk.injEq] at hq; omega
        · exact hq2
        · exact hq
      have HQ := Lib.hid hq; clear hq hp
      have hdm : decide (4096 < (m : Int)) = true := by simp; omega
      go_wp2_with fail
      go_ret
      exact ⟨hK.trans hK2, 0, _, _, rfl, by omega, H2.out, .inr ⟨rfl, .inr HQ.out⟩⟩
    · obtain ⟨h2, hK2⟩ := h1.mark false
      have hset := set_cell1 d1 (.bool false)
      have H2 := Lib.hid h2; clear h2
      have hq : pNum 4096 (bs.drop i) = some (m, bs.drop j) := by
        rcases hc.out with ⟨n, r, hq, _, ⟨_, hq2⟩ | ⟨hlt, _⟩⟩ | ⟨hq, _⟩
        · rw [hp] at hq; simp only [Option.some.injEq, Prod.mk.injEq] at hq; rw [hq2, hq.1, hq.2]
        · rw [hp] at hq; simp only [Option.some.injEq, Prod.mk.injEq] at hq; omega
        · rw [hp] at hq; cases hq
      have HQ := Lib.hid hq; clear hq hp
      have hdm : decide (4096 < (m : Int)) = false := by simp; omega
      go_wp2_with fail
      go_ret
      exact ⟨hK.trans hK2, m, _, _, rfl, by omega, H2.out, .inl ⟨HB0.out, rfl, HQ.out⟩⟩

theorem flag_parse (b : UInt8) (r : List UInt8) : parse .flag (b :: r) = if 1 < b.toNat then none else some ([.flag (b.toNat == 1)], r) := rfl
set_option maxRecDepth 100000 in
set_option maxHeartbeats 2000000 in
theorem c_flag (p c : Nat) (B : Nat) (bs : List UInt8) (i : Nat) (bad : Bool) (w : World) (h : Cu w p c B bs i bad) :
    Calls Tryz.prog 47 #[.pointer (some ⟨p, 0, none⟩)] w (CPost w p c B bs .flag i bad one) := by
  obtain ⟨c0, c1, f1⟩ := h.open_
  have hi := h.2.2.2.2.1
  by_cases hl : bs.length ≤ i
  · have hlt : (bs.length : Int) - (i : Int) < 1 := by omega
    have hpar : parse .flag (bs.drop i) = none := by rw [List.drop_eq_nil_of_le hl]; rfl
    have HP := Lib.hid hpar; clear hpar
    generalize hn : bs.length = n at *
    have HN := Lib.hid hn; clear hn
    go_enter Tryz.func47, Tryz.ntmps47
    go_wp2_with fail
    refine (cut_left c B i bs w h.2.2.2).mono ?_
    rw [HN.out]
    rintro e w1 ⟨rfl, d, rfl⟩
    have h1 := h.drewN d
    obtain ⟨_, d1, g1⟩ := h1.open_
    obtain ⟨h2, hK2⟩ := h1.mark true
    have H2 := Lib.hid h2; clear h2
    go_wp2_with fail
    go_ret
    exact ⟨(Keeps.refl.drewN d).trans hK2, _, _, [.bool false], rfl, ⟨_, rfl⟩, H2.out, .inr ⟨rfl, .inr HP.out⟩⟩
  · have hge : ¬ (bs.length : Int) - (i : Int) < 1 := by omega
    have hdr : bs.drop i = bs[i]'(by omega) :: bs.drop (i + 1) := List.drop_eq_getElem_cons (by omega)
    have hpar := flag_parse (bs[i]'(by omega)) (bs.drop (i + 1))
    rw [← hdr] at hpar
    have hb8 := (bs[i]'(by omega)).toNat_lt
    obtain ⟨a, cap, e0, e1, ef, hrd, hcap, hmax, _⟩ := h.2.2.2.open_
    obtain ⟨g, o, rfl, hgB, hcs⟩ := hrd.pos (by rw [length_cb]; omega)
    have hcell : w.cell? ⟨g, o + i, none⟩ = some (.int .u8 ((bs[i]'(by omega)).toNat : Int)) := by rw [hcs i (by rw [length_cb]; omega)]; simp [cb]
    have hgw : g < w.heap.size := World.block_lt_of_cell? w _ hcell
    have HP := Lib.hid hpar; clear hpar hdr hcs hrd
    generalize hv : (bs[i]'(by omega)) = b at *
    clear hv
    unfold maxLen at hmax
    have hi1 : i + 1 ≤ bs.length := by omega
    generalize hn : bs.length = n at *
    have HN := Lib.hid hn; clear hn
    have hpc : ¬ p = c := h.2.1
    have hcp : ¬ c = p := fun e => hpc e.symm
    have HG : Hid (∀ (m : Nat) (b2 : Bool), Cu (((w.drewN m).setCell ⟨c, 1, none⟩ (.int .i64 ((i : Int) + 1))).setCell ⟨p, 1, none⟩ (.bool b2)) p c B bs (i + 1) b2 ∧ Keeps (Off2 p c) w (((w.drewN m).setCell ⟨c, 1, none⟩ (.int .i64 ((i : Int) + 1))).setCell ⟨p, 1, none⟩ (.bool b2))) := by
      intro m b2
      have hs := (h.drewN m).2.2.2.stored (q := i + 1) (by rw [HN.out]; exact hi1)
      have e : ((i + 1 : Nat) : Int) = (i : Int) + 1 := by omega
      rw [e] at hs
      obtain ⟨h1, hK⟩ := (h.drewN m).on hs.1 hs.2
      obtain ⟨h2, hK2⟩ := h1.mark b2
      exact ⟨h2, ((Keeps.refl.drewN m).trans hK).trans hK2⟩
    cases bad with
    | true =>
      go_enter Tryz.func47, Tryz.ntmps47
      go_wp2_with fail
      refine (cut_left c B i bs w h.2.2.2).mono ?_
      rw [HN.out]
      rintro e w1 ⟨rfl, d, rfl⟩
      go_wp2_with fail
      go_quiet (fail)
      go_wp2_with fail
      go_ret
      exact ⟨(HG.out _ true).2, _, _, [.bool _], rfl, ⟨_, rfl⟩, (HG.out _ true).1, .inr ⟨rfl, .inl rfl⟩⟩
    | false =>
      by_cases h1 : 1 < b.toNat
      · have hd1 : decide (1 < (b.toNat : Int)) = true := by simp; omega
        go_enter Tryz.func47, Tryz.ntmps47
        go_wp2_with fail
        refine (cut_left c B i bs w h.2.2.2).mono ?_
        rw [HN.out]
        rintro e w1 ⟨rfl, d, rfl⟩
        go_wp2_with fail
        go_quiet (fail)
        go_wp2_with fail
        go_ret
        exact ⟨(HG.out _ true).2, _, _, [.bool _], rfl, ⟨_, rfl⟩, (HG.out _ true).1, .inr ⟨rfl, .inr (by rw [HP.out, if_pos h1])⟩⟩
      · have hd1 : decide (1 < (b.toNat : Int)) = false := by simp; omega
        go_enter Tryz.func47, Tryz.ntmps47
        go_wp2_with fail
        refine (cut_left c B i bs w h.2.2.2).mono ?_
        rw [HN.out]
        rintro e w1 ⟨rfl, d, rfl⟩
        go_wp2_with fail
        go_quiet (fail)
        go_wp2_with fail
        go_ret
        exact ⟨(HG.out _ false).2, _, _, [.bool _], rfl, ⟨_, rfl⟩, (HG.out _ false).1, .inl ⟨rfl, rfl, _, by rw [HP.out, if_neg h1]⟩⟩
end Go.Proofs.YtbhpbiimfcdgaaaGreat
