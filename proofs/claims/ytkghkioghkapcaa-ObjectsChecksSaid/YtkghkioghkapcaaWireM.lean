/-
  Layer 3 as mathematics: a thing is a row of fields (tokens); its bytes; its first fault; what bytes read as, by shape.
-/
import Derived.Test.YtkghkioghkapcaaLow
namespace Go.Proofs.Ytkghkioghkapcaa
open Go.RowKit

inductive Tok where
  | num (n : Int) | whole (n : Int) | text (s : List UInt8) | flag (b : Bool) | many (n : Nat)

/-- A whole number's bytes. -/
def wb (n : Int) : List UInt8 := lowB (IntKind.u64.wrap n) 8
def fb (b : Bool) : List UInt8 := [bif b then 1 else 0]

def Tok.bytes : Tok → List UInt8
  | .num n => lowB n 4
  | .whole n => wb n
  | .text s => lowB (s.length : Int) 4 ++ s
  | .flag b => fb b
  | .many n => lowB (n : Int) 4
/-- The error of a field that may not be laid; 0: none. -/
def Tok.fault : Tok → Int
  | .num n => if n < 0 ∨ 1000000000 < n then 1 else 0
  | .text s => if 65536 < s.length then 2 else 0
  | .many n => if 4096 < n then 2 else 0
  | _ => 0
/-- How many bytes a field takes, at most. -/
def Tok.wt : Tok → Nat
  | .text s => if s.length ≤ 65536 then 4 + s.length else 0
  | .whole _ => 8
  | _ => 4

def bytesL : List Tok → List UInt8
  | [] => []
  | t :: r => t.bytes ++ bytesL r
def firstF : List Tok → Int
  | [] => 0
  | t :: r => if t.fault = 0 then firstF r else t.fault
def wtL : List Tok → Nat
  | [] => 0
  | t :: r => t.wt + wtL r

theorem bytesL_append : ∀ a b : List Tok, bytesL (a ++ b) = bytesL a ++ bytesL b
  | [], b => rfl
  | x :: r, b => by simp [bytesL, bytesL_append r b]
theorem wtL_append : ∀ a b : List Tok, wtL (a ++ b) = wtL a + wtL b
  | [], b => by simp [wtL]
  | x :: r, b => by simp [wtL, wtL_append r b, Nat.add_assoc]
theorem firstF_append : ∀ a b : List Tok, firstF (a ++ b) = if firstF a = 0 then firstF b else firstF a
  | [], b => by simp [firstF]
  | x :: r, b => by
    simp only [List.cons_append, firstF, firstF_append r b]
    by_cases h : x.fault = 0 <;> simp [h]
theorem firstF_left {a b : List Tok} (h : firstF a = 0) : firstF (a ++ b) = firstF b := by rw [firstF_append, if_pos h]
theorem firstF_stop {a b : List Tok} (h : firstF a ≠ 0) : firstF (a ++ b) = firstF a := by rw [firstF_append, if_neg h]
theorem firstF_zero {a b : List Tok} : firstF (a ++ b) = 0 ↔ firstF a = 0 ∧ firstF b = 0 := by
  rw [firstF_append]; by_cases h : firstF a = 0 <;> simp [h]
theorem firstF_cons {t : Tok} {r : List Tok} (h : t.fault = 0) : firstF (t :: r) = firstF r := by simp only [firstF]; rw [if_pos h]
theorem fault_many {n : Nat} (h : n ≤ 4096) : (Tok.many n).fault = 0 := by simp only [Tok.fault]; rw [if_neg (by omega)]
theorem fault_text {s : List UInt8} (h : s.length ≤ 65536) : (Tok.text s).fault = 0 := by simp only [Tok.fault]; rw [if_neg (by omega)]
theorem fault_num {n : Int} (h0 : 0 ≤ n) (h : n ≤ 1000000000) : (Tok.num n).fault = 0 := by simp only [Tok.fault]; rw [if_neg (by omega)]
theorem fault_cases (t : Tok) : t.fault = 0 ∨ t.fault = 1 ∨ t.fault = 2 := by
  cases t <;> simp [Tok.fault] <;> omega
theorem length_bytes {t : Tok} (h : t.fault = 0) : t.bytes.length ≤ t.wt := by
  cases t with
  | num n => simp [Tok.bytes, Tok.wt]
  | whole n => simp [Tok.bytes, Tok.wt, wb]
  | text s =>
    simp only [Tok.fault] at h
    have h' : s.length ≤ 65536 := by
      by_cases h2 : 65536 < s.length
      · simp [h2] at h
      · omega
    simp [Tok.bytes, Tok.wt, h']
  | flag b => simp [Tok.bytes, Tok.wt, fb]
  | many n => simp [Tok.bytes, Tok.wt]
theorem length_bytesL : ∀ {ts : List Tok}, firstF ts = 0 → (bytesL ts).length ≤ wtL ts
  | [], _ => by simp [bytesL]
  | t :: r, h => by
    simp only [firstF] at h
    by_cases h0 : t.fault = 0
    · rw [if_pos h0] at h
      have h1 := length_bytes h0
      have h2 := length_bytesL h
      simp only [bytesL, wtL, List.length_append]
      omega
    · rw [if_neg h0] at h; exact absurd h h0

/-- The sorts of things. -/
inductive Sh where
  | num | whole | text | flag
  | two (a b : Sh)
  | list (e : Sh)

def Sh.size : Sh → Nat
  | .two a b => a.size + b.size
  | _ => 1

/-- A number of at most 'most', and what stands behind it. -/
def pNum (most : Nat) (bs : List UInt8) : Option (Nat × List UInt8) :=
  if bs.length < 4 ∨ most < le (bs.take 4) then none else some (le (bs.take 4), bs.drop 4)
def parseN (p : List UInt8 → Option (List Tok × List UInt8)) : Nat → List UInt8 → Option (List Tok × List UInt8)
  | 0, bs => some ([], bs)
  | n + 1, bs => match parseN p n bs with
    | none => none
    | some (ts, r) => match p r with
      | none => none
      | some (t, r') => some (ts ++ t, r')
def parse : Sh → List UInt8 → Option (List Tok × List UInt8)
  | .num, bs => match pNum 1000000000 bs with
    | none => none
    | some (n, r) => some ([.num n], r)
  | .whole, bs => if bs.length < 8 then none else some ([.whole (wrap64 (le (bs.take 8) : Int))], bs.drop 8)
  | .text, bs => match pNum 65536 bs with
    | none => none
    | some (n, r) => if r.length < n then none else some ([.text (r.take n)], r.drop n)
  | .flag, bs => match bs with
    | [] => none
    | b :: r => if 1 < b.toNat then none else some ([.flag (b.toNat == 1)], r)
  | .two a b, bs => match parse a bs with
    | none => none
    | some (ta, r) => match parse b r with
      | none => none
      | some (tb, r') => some (ta ++ tb, r')
  | .list e, bs => match pNum 4096 bs with
    | none => none
    | some (n, r) => match parseN (parse e) n r with
      | none => none
      | some (ts, r') => some (.many n :: ts, r')

/-- A row of fields is one of this sort. -/
def Fit : Sh → List Tok → Prop
  | .num, ts => ∃ n, ts = [.num n]
  | .whole, ts => ∃ n : Int, -9223372036854775808 ≤ n ∧ n < 9223372036854775808 ∧ ts = [.whole n]
  | .text, ts => ∃ s, ts = [.text s]
  | .flag, ts => ∃ b, ts = [.flag b]
  | .two a b, ts => ∃ ta tb, ts = ta ++ tb ∧ Fit a ta ∧ Fit b tb
  | .list e, ts => ∃ (n : Nat) (tss : List (List Tok)), (4096 < n ∧ ts = [.many n]) ∨ (n ≤ 4096 ∧ tss.length = n ∧ ts = .many n :: tss.flatten ∧ ∀ t ∈ tss, Fit e t)

theorem pNum_lay (most n : Nat) (r : List UInt8) (h : n ≤ most) (hm : n < 4294967296) : pNum most (lowB (n : Int) 4 ++ r) = some (n, r) := by
  have hl : (lowB (n : Int) 4).length = 4 := length_lowB _ _
  have ht : (lowB (n : Int) 4 ++ r).take 4 = lowB (n : Int) 4 := List.take_left' hl
  have hd : (lowB (n : Int) 4 ++ r).drop 4 = r := List.drop_left' hl
  have hv : le (lowB (n : Int) 4) = n := le_lowB_of n 4 (by omega)
  unfold pNum
  rw [ht, hd, hv, if_neg (by simp [hl]; omega)]
theorem pNum_some {most n : Nat} {bs r : List UInt8} (h : pNum most bs = some (n, r)) : n ≤ most ∧ bs = lowB (n : Int) 4 ++ r := by
  unfold pNum at h
  by_cases hc : bs.length < 4 ∨ most < le (bs.take 4)
  · rw [if_pos hc] at h; cases h
  · rw [if_neg hc] at h
    simp only [Option.some.injEq, Prod.mk.injEq] at h
    obtain ⟨rfl, rfl⟩ := h
    have hl : (bs.take 4).length = 4 := by simp; omega
    have := lowB_le (bs.take 4)
    rw [hl] at this
    exact ⟨by omega, by rw [this, List.take_append_drop]⟩
theorem wrap_back (n : Int) (h1 : -9223372036854775808 ≤ n) (h2 : n < 9223372036854775808) : wrap64 (IntKind.u64.wrap n) = n := by
  rw [IntKind.wrap_u64]; unfold wrap64; omega
theorem wrap_on (n : Nat) (h : n < 18446744073709551616) : IntKind.u64.wrap (wrap64 (n : Int)) = (n : Int) := by
  rw [IntKind.wrap_u64]; unfold wrap64; omega
theorem wrap64_in (n : Int) : -9223372036854775808 ≤ wrap64 n ∧ wrap64 n < 9223372036854775808 := by unfold wrap64; omega

theorem parseN_lay {p : List UInt8 → Option (List Tok × List UInt8)} (r : List UInt8) (tss : List (List Tok)) : ∀ (k : Nat), k ≤ tss.length → (∀ t ∈ tss, ∀ r, p (bytesL t ++ r) = some (t, r)) →
    parseN p k (bytesL tss.flatten ++ r) = some ((tss.take k).flatten, bytesL (tss.drop k).flatten ++ r)
  | 0, _, _ => by simp [parseN]
  | k + 1, hk, hp => by
    have ih := parseN_lay r tss k (by omega) hp
    have e : tss.drop k = tss[k] :: tss.drop (k + 1) := List.drop_eq_getElem_cons (by omega)
    simp only [parseN, ih, e, List.flatten_cons, bytesL_append, List.append_assoc]
    rw [hp tss[k] (List.getElem_mem _)]
    simp only
    rw [List.take_succ_eq_append_getElem (show k < tss.length by omega), List.flatten_append]
    simp

theorem parse_lay : ∀ (sh : Sh) (ts : List Tok) (r : List UInt8), Fit sh ts → firstF ts = 0 → parse sh (bytesL ts ++ r) = some (ts, r) := by
  intro sh
  induction sh with
  | num =>
    rintro ts r ⟨n, rfl⟩ h
    simp only [firstF, Tok.fault] at h
    have hn : ¬ (n < 0 ∨ 1000000000 < n) := by intro hc; simp [hc] at h
    obtain ⟨m, rfl⟩ : ∃ m : Nat, n = m := ⟨n.toNat, by omega⟩
    simp only [bytesL, Tok.bytes, List.append_nil, parse]
    rw [pNum_lay _ _ _ (by omega) (by omega)]
  | whole =>
    rintro ts r ⟨n, h1, h2, rfl⟩ _
    have hl : (wb n).length = 8 := length_lowB _ _
    have hu : 0 ≤ IntKind.u64.wrap n ∧ IntKind.u64.wrap n < 18446744073709551616 := by rw [IntKind.wrap_u64]; omega
    simp only [bytesL, Tok.bytes, List.append_nil, parse]
    rw [if_neg (by simp [hl]), List.take_left' hl, List.drop_left' hl]
    obtain ⟨m, hm⟩ : ∃ m : Nat, IntKind.u64.wrap n = m := ⟨(IntKind.u64.wrap n).toNat, by omega⟩
    have hv : le (wb n) = m := by unfold wb; rw [hm]; exact le_lowB_of m 8 (by omega)
    rw [hv, ← hm, wrap_back n h1 h2]
  | text =>
    rintro ts r ⟨s, rfl⟩ h
    simp only [firstF, Tok.fault] at h
    have hn : ¬ 65536 < s.length := by intro hc; simp [hc] at h
    simp only [bytesL, Tok.bytes, List.append_nil, parse, List.append_assoc]
    rw [pNum_lay _ _ _ (by omega) (by omega)]
    simp
  | flag =>
    rintro ts r ⟨b, rfl⟩ _
    cases b <;> simp [bytesL, Tok.bytes, fb, parse]
  | two a b iha ihb =>
    rintro ts r ⟨ta, tb, rfl, ha, hb⟩ h
    rw [firstF_zero] at h
    simp only [parse, bytesL_append, List.append_assoc, iha ta _ ha h.1, ihb tb _ hb h.2]
  | list e ih =>
    rintro ts r ⟨n, tss, h1⟩ h
    rcases h1 with ⟨hn, rfl⟩ | ⟨hn, hl, rfl, he⟩
    · simp [firstF, Tok.fault, hn] at h
    · rw [firstF_cons (fault_many hn)] at h
      have hz : ∀ t ∈ tss, firstF t = 0 := by
        clear hl he hn
        induction tss with
        | nil => simp
        | cons x l ihl =>
          rw [List.flatten_cons, firstF_zero] at h
          intro t ht
          rcases List.mem_cons.1 ht with rfl | ht
          · exact h.1
          · exact ihl h.2 t ht
      simp only [parse, bytesL, Tok.bytes, List.append_assoc]
      rw [pNum_lay _ _ _ (by omega) (by omega)]
      simp only
      rw [parseN_lay r tss n (by omega) (fun t ht r => ih t r (he t ht) (hz t ht))]
      simp [List.take_of_length_le (show tss.length ≤ n by omega), List.drop_eq_nil_of_le (show tss.length ≤ n by omega), bytesL]

theorem parseN_some {e : Sh} (ih : ∀ (b : List UInt8) (ts : List Tok) (r : List UInt8), parse e b = some (ts, r) → bytesL ts ++ r = b ∧ firstF ts = 0 ∧ Fit e ts) :
    ∀ (n : Nat) (b : List UInt8) (ts : List Tok) (r : List UInt8), parseN (parse e) n b = some (ts, r) →
      bytesL ts ++ r = b ∧ firstF ts = 0 ∧ ∃ tss : List (List Tok), ts = tss.flatten ∧ tss.length = n ∧ ∀ t ∈ tss, Fit e t := by
  intro n
  induction n with
  | zero =>
    intro b ts r h
    simp only [parseN, Option.some.injEq, Prod.mk.injEq] at h
    obtain ⟨rfl, rfl⟩ := h
    exact ⟨rfl, rfl, [], rfl, rfl, by simp⟩
  | succ n ihn =>
    intro b ts r h
    simp only [parseN] at h
    cases h1 : parseN (parse e) n b with
    | none => simp [h1] at h
    | some x =>
      obtain ⟨t1, r1⟩ := x
      simp only [h1] at h
      cases h2 : parse e r1 with
      | none => simp [h2] at h
      | some y =>
        obtain ⟨t2, r2⟩ := y
        simp only [h2, Option.some.injEq, Prod.mk.injEq] at h
        obtain ⟨rfl, rfl⟩ := h
        obtain ⟨a1, a2, tss, rfl, a4, a5⟩ := ihn b t1 r1 h1
        obtain ⟨b1, b2, b3⟩ := ih r1 t2 r2 h2
        refine ⟨by rw [bytesL_append, List.append_assoc, b1, a1], firstF_zero.2 ⟨a2, b2⟩, tss ++ [t2], by simp, by simp [a4], ?_⟩
        intro t ht
        rcases List.mem_append.1 ht with ht | ht
        · exact a5 t ht
        · rw [List.mem_singleton.1 ht]; exact b3

theorem parse_some : ∀ (sh : Sh) (b : List UInt8) (ts : List Tok) (r : List UInt8), parse sh b = some (ts, r) → bytesL ts ++ r = b ∧ firstF ts = 0 ∧ Fit sh ts := by
  intro sh
  induction sh with
  | num =>
    intro b ts r h
    simp only [parse] at h
    cases h1 : pNum 1000000000 b with
    | none => simp [h1] at h
    | some x =>
      obtain ⟨n, r1⟩ := x
      simp only [h1, Option.some.injEq, Prod.mk.injEq] at h
      obtain ⟨rfl, rfl⟩ := h
      obtain ⟨hn, hb⟩ := pNum_some h1
      exact ⟨by simp [bytesL, Tok.bytes, hb], firstF_cons (fault_num (by omega) (by omega)), _, rfl⟩
  | whole =>
    intro b ts r h
    simp only [parse] at h
    by_cases hl : b.length < 8
    · simp [hl] at h
    · simp only [hl, if_false, Option.some.injEq, Prod.mk.injEq] at h
      obtain ⟨rfl, rfl⟩ := h
      have h8 : (b.take 8).length = 8 := by simp; omega
      have hlt := le_lt (b.take 8)
      rw [h8] at hlt
      have hb := lowB_le (b.take 8)
      rw [h8] at hb
      refine ⟨?_, rfl, _, (wrap64_in _).1, (wrap64_in _).2, rfl⟩
      simp only [bytesL, Tok.bytes, List.append_nil, wb]
      rw [wrap_on _ (by omega), hb, List.take_append_drop]
  | text =>
    intro b ts r h
    simp only [parse] at h
    cases h1 : pNum 65536 b with
    | none => simp [h1] at h
    | some x =>
      obtain ⟨n, r1⟩ := x
      simp only [h1] at h
      by_cases hl : r1.length < n
      · simp [hl] at h
      · simp only [hl, if_false, Option.some.injEq, Prod.mk.injEq] at h
        obtain ⟨rfl, rfl⟩ := h
        obtain ⟨hn, hb⟩ := pNum_some h1
        have ht : (r1.take n).length = n := by simp; omega
        refine ⟨?_, firstF_cons (fault_text (by omega)), _, rfl⟩
        simp only [bytesL, Tok.bytes, List.append_nil, ht, List.append_assoc, List.take_append_drop]
        exact hb.symm
  | flag =>
    intro b ts r h
    cases b with
    | nil => simp [parse] at h
    | cons x l =>
      simp only [parse] at h
      by_cases hx : 1 < x.toNat
      · simp [hx] at h
      · simp only [hx, if_false, Option.some.injEq, Prod.mk.injEq] at h
        obtain ⟨rfl, rfl⟩ := h
        refine ⟨?_, rfl, _, rfl⟩
        simp only [bytesL, Tok.bytes, fb, List.append_nil, List.singleton_append, List.cons.injEq, and_true]
        rcases (show x.toNat = 0 ∨ x.toNat = 1 by omega) with h0 | h0
        · simp only [h0]; exact (UInt8.toNat.inj (by simpa using h0)).symm
        · simp only [h0]; exact (UInt8.toNat.inj (by simpa using h0)).symm
  | two a b iha ihb =>
    intro bs ts r h
    simp only [parse] at h
    cases h1 : parse a bs with
    | none => simp [h1] at h
    | some x =>
      obtain ⟨ta, r1⟩ := x
      simp only [h1] at h
      cases h2 : parse b r1 with
      | none => simp [h2] at h
      | some y =>
        obtain ⟨tb, r2⟩ := y
        simp only [h2, Option.some.injEq, Prod.mk.injEq] at h
        obtain ⟨rfl, rfl⟩ := h
        obtain ⟨a1, a2, a3⟩ := iha bs ta r1 h1
        obtain ⟨b1, b2, b3⟩ := ihb r1 tb r2 h2
        exact ⟨by rw [bytesL_append, List.append_assoc, b1, a1], firstF_zero.2 ⟨a2, b2⟩, ta, tb, rfl, a3, b3⟩
  | list e ih =>
    intro b ts r h
    simp only [parse] at h
    cases h1 : pNum 4096 b with
    | none => simp [h1] at h
    | some x =>
      obtain ⟨n, r1⟩ := x
      simp only [h1] at h
      cases h2 : parseN (parse e) n r1 with
      | none => simp [h2] at h
      | some y =>
        obtain ⟨t2, r2⟩ := y
        simp only [h2, Option.some.injEq, Prod.mk.injEq] at h
        obtain ⟨rfl, rfl⟩ := h
        obtain ⟨hn, hb⟩ := pNum_some h1
        obtain ⟨a1, a2, tss, rfl, a4, a5⟩ := parseN_some ih n r1 t2 r2 h2
        refine ⟨?_, ?_, n, tss, .inr ⟨hn, a4, rfl, a5⟩⟩
        · simp only [bytesL, Tok.bytes, List.append_assoc, a1]; exact hb.symm
        · rw [firstF_cons (fault_many hn)]; exact a2

/-- What is read with nothing behind it is read with anything behind it. -/
theorem parse_more {sh : Sh} {b : List UInt8} {ts : List Tok} {r : List UInt8} (h : parse sh b = some (ts, r)) (x : List UInt8) : parse sh (b ++ x) = some (ts, r ++ x) := by
  obtain ⟨h1, h2, h3⟩ := parse_some sh b ts r h
  rw [← h1, List.append_assoc]
  exact parse_lay sh ts (r ++ x) h3 h2
end Go.Proofs.Ytkghkioghkapcaa
