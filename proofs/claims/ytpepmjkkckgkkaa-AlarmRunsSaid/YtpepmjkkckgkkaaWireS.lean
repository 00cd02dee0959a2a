/-
  Layer 3's things by shape: how each opens into its cells and fields, and how it is put together (made by wip/gen_wire.py)
-/
import Derived.Test.YtpepmjkkckgkkaaWireW
namespace Go.Proofs.Ytpepmjkkckgkkaa
open Go.RowKit
set_option linter.unusedVariables false

theorem Is.list_cells {w : World} {S : Nat → Prop} {e : Sh} {cs : List Value} {ts : List Tok} (h : Is w S (.list e) cs ts) : ∃ a l c, cs = [.slice a l c] := by
  obtain ⟨a, l, c, _, h, _⟩ := h
  exact ⟨a, l, c, h⟩
def shColumn : Sh := .two .text (.two .num .flag)
theorem open_Column {w : World} {S : Nat → Prop} {cs : List Value} {ts : List Tok} (h : Is w S shColumn cs ts) :
    ∃ (s0 : ByteArray) (n1 : Int) (b2 : Bool), cs = [.string s0, .int .i64 n1, .bool b2] ∧ ts = [Tok.text s0.data.toList] ++ ([Tok.num n1] ++ [Tok.flag b2]) ∧ s0.size ≤ maxLen ∧ -9223372036854775808 ≤ n1 ∧ n1 < 9223372036854775808 := by
  obtain ⟨_, _, _, _, rfl, rfl, ⟨s0, hs0, rfl, rfl⟩, ⟨_, _, _, _, rfl, rfl, ⟨n1, lo1, hi1, rfl, rfl⟩, ⟨b2, rfl, rfl⟩⟩⟩ := h
  exact ⟨s0, n1, b2, rfl, rfl, hs0, lo1, hi1⟩
theorem cells_Column {w : World} {S : Nat → Prop} {cs : List Value} {ts : List Tok} (h : Is w S shColumn cs ts) :
    ∃ (s0 : ByteArray) (n1 : Int) (b2 : Bool), cs = [.string s0, .int .i64 n1, .bool b2] := by
  obtain ⟨s0, n1, b2, h, _⟩ := open_Column h
  exact ⟨s0, n1, b2, h⟩
theorem mk_Column {w : World} {S : Nat → Prop} {s0 : ByteArray} {n1 : Int} {b2 : Bool} (hs0 : s0.size ≤ maxLen) (lo1 : -9223372036854775808 ≤ n1) (hi1 : n1 < 9223372036854775808) :
    Is w S shColumn [.string s0, .int .i64 n1, .bool b2] ([Tok.text s0.data.toList] ++ ([Tok.num n1] ++ [Tok.flag b2])) :=
  ⟨[.string s0], _, [Tok.text s0.data.toList], _, rfl, rfl, ⟨s0, hs0, rfl, rfl⟩, ⟨[.int .i64 n1], _, [Tok.num n1], _, rfl, rfl, ⟨n1, lo1, hi1, rfl, rfl⟩, ⟨b2, rfl, rfl⟩⟩⟩

def shRule : Sh := .two .text (.two .num (.two (.list .text) (.two .whole (.two .whole (.two .text (.two .text .text))))))
theorem open_Rule {w : World} {S : Nat → Prop} {cs : List Value} {ts : List Tok} (h : Is w S shRule cs ts) :
    ∃ (s0 : ByteArray) (n1 : Int) (a2 : Option Addr) (l2 : Nat) (c2 : Nat) (n3 : Int) (n4 : Int) (s5 : ByteArray) (s6 : ByteArray) (s7 : ByteArray) (t2 : List Tok), cs = [.string s0, .int .i64 n1, .slice a2 l2 c2, .int .i64 n3, .int .i64 n4, .string s5, .string s6, .string s7] ∧ ts = [Tok.text s0.data.toList] ++ ([Tok.num n1] ++ (t2 ++ ([Tok.whole n3] ++ ([Tok.whole n4] ++ ([Tok.text s5.data.toList] ++ ([Tok.text s6.data.toList] ++ [Tok.text s7.data.toList])))))) ∧ s0.size ≤ maxLen ∧ -9223372036854775808 ≤ n1 ∧ n1 < 9223372036854775808 ∧ Is w S (.list .text) [.slice a2 l2 c2] t2 ∧ -9223372036854775808 ≤ n3 ∧ n3 < 9223372036854775808 ∧ -9223372036854775808 ≤ n4 ∧ n4 < 9223372036854775808 ∧ s5.size ≤ maxLen ∧ s6.size ≤ maxLen ∧ s7.size ≤ maxLen := by
  obtain ⟨_, _, _, _, rfl, rfl, ⟨s0, hs0, rfl, rfl⟩, ⟨_, _, _, _, rfl, rfl, ⟨n1, lo1, hi1, rfl, rfl⟩, ⟨_, _, t2, _, rfl, rfl, I2, ⟨_, _, _, _, rfl, rfl, ⟨n3, lo3, hi3, rfl, rfl⟩, ⟨_, _, _, _, rfl, rfl, ⟨n4, lo4, hi4, rfl, rfl⟩, ⟨_, _, _, _, rfl, rfl, ⟨s5, hs5, rfl, rfl⟩, ⟨_, _, _, _, rfl, rfl, ⟨s6, hs6, rfl, rfl⟩, ⟨s7, hs7, rfl, rfl⟩⟩⟩⟩⟩⟩⟩⟩ := h
  obtain ⟨a2, l2, c2, rfl⟩ := I2.list_cells
  exact ⟨s0, n1, a2, l2, c2, n3, n4, s5, s6, s7, t2, rfl, rfl, hs0, lo1, hi1, I2, lo3, hi3, lo4, hi4, hs5, hs6, hs7⟩
theorem cells_Rule {w : World} {S : Nat → Prop} {cs : List Value} {ts : List Tok} (h : Is w S shRule cs ts) :
    ∃ (s0 : ByteArray) (n1 : Int) (a2 : Option Addr) (l2 : Nat) (c2 : Nat) (n3 : Int) (n4 : Int) (s5 : ByteArray) (s6 : ByteArray) (s7 : ByteArray), cs = [.string s0, .int .i64 n1, .slice a2 l2 c2, .int .i64 n3, .int .i64 n4, .string s5, .string s6, .string s7] := by
  obtain ⟨s0, n1, a2, l2, c2, n3, n4, s5, s6, s7, _, h, _⟩ := open_Rule h
  exact ⟨s0, n1, a2, l2, c2, n3, n4, s5, s6, s7, h⟩
theorem mk_Rule {w : World} {S : Nat → Prop} {s0 : ByteArray} {n1 : Int} {a2 : Option Addr} {l2 : Nat} {c2 : Nat} {n3 : Int} {n4 : Int} {s5 : ByteArray} {s6 : ByteArray} {s7 : ByteArray} {t2 : List Tok} (hs0 : s0.size ≤ maxLen) (lo1 : -9223372036854775808 ≤ n1) (hi1 : n1 < 9223372036854775808) (I2 : Is w S (.list .text) [.slice a2 l2 c2] t2) (lo3 : -9223372036854775808 ≤ n3) (hi3 : n3 < 9223372036854775808) (lo4 : -9223372036854775808 ≤ n4) (hi4 : n4 < 9223372036854775808) (hs5 : s5.size ≤ maxLen) (hs6 : s6.size ≤ maxLen) (hs7 : s7.size ≤ maxLen) :
    Is w S shRule [.string s0, .int .i64 n1, .slice a2 l2 c2, .int .i64 n3, .int .i64 n4, .string s5, .string s6, .string s7] ([Tok.text s0.data.toList] ++ ([Tok.num n1] ++ (t2 ++ ([Tok.whole n3] ++ ([Tok.whole n4] ++ ([Tok.text s5.data.toList] ++ ([Tok.text s6.data.toList] ++ [Tok.text s7.data.toList]))))))) :=
  ⟨[.string s0], _, [Tok.text s0.data.toList], _, rfl, rfl, ⟨s0, hs0, rfl, rfl⟩, ⟨[.int .i64 n1], _, [Tok.num n1], _, rfl, rfl, ⟨n1, lo1, hi1, rfl, rfl⟩, ⟨[.slice a2 l2 c2], _, t2, _, rfl, rfl, I2, ⟨[.int .i64 n3], _, [Tok.whole n3], _, rfl, rfl, ⟨n3, lo3, hi3, rfl, rfl⟩, ⟨[.int .i64 n4], _, [Tok.whole n4], _, rfl, rfl, ⟨n4, lo4, hi4, rfl, rfl⟩, ⟨[.string s5], _, [Tok.text s5.data.toList], _, rfl, rfl, ⟨s5, hs5, rfl, rfl⟩, ⟨[.string s6], _, [Tok.text s6.data.toList], _, rfl, rfl, ⟨s6, hs6, rfl, rfl⟩, ⟨s7, hs7, rfl, rfl⟩⟩⟩⟩⟩⟩⟩⟩

def shTable : Sh := .two .text (.two .text (.two .text (.two (.list shColumn) (.list shRule))))
theorem open_Table {w : World} {S : Nat → Prop} {cs : List Value} {ts : List Tok} (h : Is w S shTable cs ts) :
    ∃ (s0 : ByteArray) (s1 : ByteArray) (s2 : ByteArray) (a3 : Option Addr) (l3 : Nat) (c3 : Nat) (a4 : Option Addr) (l4 : Nat) (c4 : Nat) (t3 : List Tok) (t4 : List Tok), cs = [.string s0, .string s1, .string s2, .slice a3 l3 c3, .slice a4 l4 c4] ∧ ts = [Tok.text s0.data.toList] ++ ([Tok.text s1.data.toList] ++ ([Tok.text s2.data.toList] ++ (t3 ++ t4))) ∧ s0.size ≤ maxLen ∧ s1.size ≤ maxLen ∧ s2.size ≤ maxLen ∧ Is w S (.list shColumn) [.slice a3 l3 c3] t3 ∧ Is w S (.list shRule) [.slice a4 l4 c4] t4 := by
  obtain ⟨_, _, _, _, rfl, rfl, ⟨s0, hs0, rfl, rfl⟩, ⟨_, _, _, _, rfl, rfl, ⟨s1, hs1, rfl, rfl⟩, ⟨_, _, _, _, rfl, rfl, ⟨s2, hs2, rfl, rfl⟩, ⟨_, _, t3, t4, rfl, rfl, I3, I4⟩⟩⟩⟩ := h
  obtain ⟨a3, l3, c3, rfl⟩ := I3.list_cells
  obtain ⟨a4, l4, c4, rfl⟩ := I4.list_cells
  exact ⟨s0, s1, s2, a3, l3, c3, a4, l4, c4, t3, t4, rfl, rfl, hs0, hs1, hs2, I3, I4⟩
theorem cells_Table {w : World} {S : Nat → Prop} {cs : List Value} {ts : List Tok} (h : Is w S shTable cs ts) :
    ∃ (s0 : ByteArray) (s1 : ByteArray) (s2 : ByteArray) (a3 : Option Addr) (l3 : Nat) (c3 : Nat) (a4 : Option Addr) (l4 : Nat) (c4 : Nat), cs = [.string s0, .string s1, .string s2, .slice a3 l3 c3, .slice a4 l4 c4] := by
  obtain ⟨s0, s1, s2, a3, l3, c3, a4, l4, c4, _, _, h, _⟩ := open_Table h
  exact ⟨s0, s1, s2, a3, l3, c3, a4, l4, c4, h⟩
theorem mk_Table {w : World} {S : Nat → Prop} {s0 : ByteArray} {s1 : ByteArray} {s2 : ByteArray} {a3 : Option Addr} {l3 : Nat} {c3 : Nat} {a4 : Option Addr} {l4 : Nat} {c4 : Nat} {t3 : List Tok} {t4 : List Tok} (hs0 : s0.size ≤ maxLen) (hs1 : s1.size ≤ maxLen) (hs2 : s2.size ≤ maxLen) (I3 : Is w S (.list shColumn) [.slice a3 l3 c3] t3) (I4 : Is w S (.list shRule) [.slice a4 l4 c4] t4) :
    Is w S shTable [.string s0, .string s1, .string s2, .slice a3 l3 c3, .slice a4 l4 c4] ([Tok.text s0.data.toList] ++ ([Tok.text s1.data.toList] ++ ([Tok.text s2.data.toList] ++ (t3 ++ t4)))) :=
  ⟨[.string s0], _, [Tok.text s0.data.toList], _, rfl, rfl, ⟨s0, hs0, rfl, rfl⟩, ⟨[.string s1], _, [Tok.text s1.data.toList], _, rfl, rfl, ⟨s1, hs1, rfl, rfl⟩, ⟨[.string s2], _, [Tok.text s2.data.toList], _, rfl, rfl, ⟨s2, hs2, rfl, rfl⟩, ⟨[.slice a3 l3 c3], _, t3, _, rfl, rfl, I3, I4⟩⟩⟩⟩

def shSchema : Sh := .two .text .text
theorem open_Schema {w : World} {S : Nat → Prop} {cs : List Value} {ts : List Tok} (h : Is w S shSchema cs ts) :
    ∃ (s0 : ByteArray) (s1 : ByteArray), cs = [.string s0, .string s1] ∧ ts = [Tok.text s0.data.toList] ++ [Tok.text s1.data.toList] ∧ s0.size ≤ maxLen ∧ s1.size ≤ maxLen := by
  obtain ⟨_, _, _, _, rfl, rfl, ⟨s0, hs0, rfl, rfl⟩, ⟨s1, hs1, rfl, rfl⟩⟩ := h
  exact ⟨s0, s1, rfl, rfl, hs0, hs1⟩
theorem cells_Schema {w : World} {S : Nat → Prop} {cs : List Value} {ts : List Tok} (h : Is w S shSchema cs ts) :
    ∃ (s0 : ByteArray) (s1 : ByteArray), cs = [.string s0, .string s1] := by
  obtain ⟨s0, s1, h, _⟩ := open_Schema h
  exact ⟨s0, s1, h⟩
theorem mk_Schema {w : World} {S : Nat → Prop} {s0 : ByteArray} {s1 : ByteArray} (hs0 : s0.size ≤ maxLen) (hs1 : s1.size ≤ maxLen) :
    Is w S shSchema [.string s0, .string s1] ([Tok.text s0.data.toList] ++ [Tok.text s1.data.toList]) :=
  ⟨[.string s0], _, [Tok.text s0.data.toList], _, rfl, rfl, ⟨s0, hs0, rfl, rfl⟩, ⟨s1, hs1, rfl, rfl⟩⟩

def shMember : Sh := .two .text .text
theorem open_Member {w : World} {S : Nat → Prop} {cs : List Value} {ts : List Tok} (h : Is w S shMember cs ts) :
    ∃ (s0 : ByteArray) (s1 : ByteArray), cs = [.string s0, .string s1] ∧ ts = [Tok.text s0.data.toList] ++ [Tok.text s1.data.toList] ∧ s0.size ≤ maxLen ∧ s1.size ≤ maxLen := by
  obtain ⟨_, _, _, _, rfl, rfl, ⟨s0, hs0, rfl, rfl⟩, ⟨s1, hs1, rfl, rfl⟩⟩ := h
  exact ⟨s0, s1, rfl, rfl, hs0, hs1⟩
theorem cells_Member {w : World} {S : Nat → Prop} {cs : List Value} {ts : List Tok} (h : Is w S shMember cs ts) :
    ∃ (s0 : ByteArray) (s1 : ByteArray), cs = [.string s0, .string s1] := by
  obtain ⟨s0, s1, h, _⟩ := open_Member h
  exact ⟨s0, s1, h⟩
theorem mk_Member {w : World} {S : Nat → Prop} {s0 : ByteArray} {s1 : ByteArray} (hs0 : s0.size ≤ maxLen) (hs1 : s1.size ≤ maxLen) :
    Is w S shMember [.string s0, .string s1] ([Tok.text s0.data.toList] ++ [Tok.text s1.data.toList]) :=
  ⟨[.string s0], _, [Tok.text s0.data.toList], _, rfl, rfl, ⟨s0, hs0, rfl, rfl⟩, ⟨s1, hs1, rfl, rfl⟩⟩

def shGrant : Sh := .two .text (.two .text (.two .num (.two .text (.two .text .flag))))
theorem open_Grant {w : World} {S : Nat → Prop} {cs : List Value} {ts : List Tok} (h : Is w S shGrant cs ts) :
    ∃ (s0 : ByteArray) (s1 : ByteArray) (n2 : Int) (s3 : ByteArray) (s4 : ByteArray) (b5 : Bool), cs = [.string s0, .string s1, .int .i64 n2, .string s3, .string s4, .bool b5] ∧ ts = [Tok.text s0.data.toList] ++ ([Tok.text s1.data.toList] ++ ([Tok.num n2] ++ ([Tok.text s3.data.toList] ++ ([Tok.text s4.data.toList] ++ [Tok.flag b5])))) ∧ s0.size ≤ maxLen ∧ s1.size ≤ maxLen ∧ -9223372036854775808 ≤ n2 ∧ n2 < 9223372036854775808 ∧ s3.size ≤ maxLen ∧ s4.size ≤ maxLen := by
  obtain ⟨_, _, _, _, rfl, rfl, ⟨s0, hs0, rfl, rfl⟩, ⟨_, _, _, _, rfl, rfl, ⟨s1, hs1, rfl, rfl⟩, ⟨_, _, _, _, rfl, rfl, ⟨n2, lo2, hi2, rfl, rfl⟩, ⟨_, _, _, _, rfl, rfl, ⟨s3, hs3, rfl, rfl⟩, ⟨_, _, _, _, rfl, rfl, ⟨s4, hs4, rfl, rfl⟩, ⟨b5, rfl, rfl⟩⟩⟩⟩⟩⟩ := h
  exact ⟨s0, s1, n2, s3, s4, b5, rfl, rfl, hs0, hs1, lo2, hi2, hs3, hs4⟩
theorem cells_Grant {w : World} {S : Nat → Prop} {cs : List Value} {ts : List Tok} (h : Is w S shGrant cs ts) :
    ∃ (s0 : ByteArray) (s1 : ByteArray) (n2 : Int) (s3 : ByteArray) (s4 : ByteArray) (b5 : Bool), cs = [.string s0, .string s1, .int .i64 n2, .string s3, .string s4, .bool b5] := by
  obtain ⟨s0, s1, n2, s3, s4, b5, h, _⟩ := open_Grant h
  exact ⟨s0, s1, n2, s3, s4, b5, h⟩
theorem mk_Grant {w : World} {S : Nat → Prop} {s0 : ByteArray} {s1 : ByteArray} {n2 : Int} {s3 : ByteArray} {s4 : ByteArray} {b5 : Bool} (hs0 : s0.size ≤ maxLen) (hs1 : s1.size ≤ maxLen) (lo2 : -9223372036854775808 ≤ n2) (hi2 : n2 < 9223372036854775808) (hs3 : s3.size ≤ maxLen) (hs4 : s4.size ≤ maxLen) :
    Is w S shGrant [.string s0, .string s1, .int .i64 n2, .string s3, .string s4, .bool b5] ([Tok.text s0.data.toList] ++ ([Tok.text s1.data.toList] ++ ([Tok.num n2] ++ ([Tok.text s3.data.toList] ++ ([Tok.text s4.data.toList] ++ [Tok.flag b5]))))) :=
  ⟨[.string s0], _, [Tok.text s0.data.toList], _, rfl, rfl, ⟨s0, hs0, rfl, rfl⟩, ⟨[.string s1], _, [Tok.text s1.data.toList], _, rfl, rfl, ⟨s1, hs1, rfl, rfl⟩, ⟨[.int .i64 n2], _, [Tok.num n2], _, rfl, rfl, ⟨n2, lo2, hi2, rfl, rfl⟩, ⟨[.string s3], _, [Tok.text s3.data.toList], _, rfl, rfl, ⟨s3, hs3, rfl, rfl⟩, ⟨[.string s4], _, [Tok.text s4.data.toList], _, rfl, rfl, ⟨s4, hs4, rfl, rfl⟩, ⟨b5, rfl, rfl⟩⟩⟩⟩⟩⟩

def shObjects : Sh := .two (.list shSchema) (.list shTable)
theorem open_Objects {w : World} {S : Nat → Prop} {cs : List Value} {ts : List Tok} (h : Is w S shObjects cs ts) :
    ∃ (a0 : Option Addr) (l0 : Nat) (c0 : Nat) (a1 : Option Addr) (l1 : Nat) (c1 : Nat) (t0 : List Tok) (t1 : List Tok), cs = [.slice a0 l0 c0, .slice a1 l1 c1] ∧ ts = t0 ++ t1 ∧ Is w S (.list shSchema) [.slice a0 l0 c0] t0 ∧ Is w S (.list shTable) [.slice a1 l1 c1] t1 := by
  obtain ⟨_, _, t0, t1, rfl, rfl, I0, I1⟩ := h
  obtain ⟨a0, l0, c0, rfl⟩ := I0.list_cells
  obtain ⟨a1, l1, c1, rfl⟩ := I1.list_cells
  exact ⟨a0, l0, c0, a1, l1, c1, t0, t1, rfl, rfl, I0, I1⟩
theorem cells_Objects {w : World} {S : Nat → Prop} {cs : List Value} {ts : List Tok} (h : Is w S shObjects cs ts) :
    ∃ (a0 : Option Addr) (l0 : Nat) (c0 : Nat) (a1 : Option Addr) (l1 : Nat) (c1 : Nat), cs = [.slice a0 l0 c0, .slice a1 l1 c1] := by
  obtain ⟨a0, l0, c0, a1, l1, c1, _, _, h, _⟩ := open_Objects h
  exact ⟨a0, l0, c0, a1, l1, c1, h⟩
theorem mk_Objects {w : World} {S : Nat → Prop} {a0 : Option Addr} {l0 : Nat} {c0 : Nat} {a1 : Option Addr} {l1 : Nat} {c1 : Nat} {t0 : List Tok} {t1 : List Tok} (I0 : Is w S (.list shSchema) [.slice a0 l0 c0] t0) (I1 : Is w S (.list shTable) [.slice a1 l1 c1] t1) :
    Is w S shObjects [.slice a0 l0 c0, .slice a1 l1 c1] (t0 ++ t1) :=
  ⟨[.slice a0 l0 c0], _, t0, _, rfl, rfl, I0, I1⟩

def shCatalog : Sh := .two .num (.two .num (.two (.list shSchema) (.two (.list shTable) (.two (.list .text) (.two (.list shMember) (.list shGrant))))))
theorem open_Catalog {w : World} {S : Nat → Prop} {cs : List Value} {ts : List Tok} (h : Is w S shCatalog cs ts) :
    ∃ (n0 : Int) (n1 : Int) (a2 : Option Addr) (l2 : Nat) (c2 : Nat) (a3 : Option Addr) (l3 : Nat) (c3 : Nat) (a4 : Option Addr) (l4 : Nat) (c4 : Nat) (a5 : Option Addr) (l5 : Nat) (c5 : Nat) (a6 : Option Addr) (l6 : Nat) (c6 : Nat) (t2 : List Tok) (t3 : List Tok) (t4 : List Tok) (t5 : List Tok) (t6 : List Tok), cs = [.int .i64 n0, .int .i64 n1, .slice a2 l2 c2, .slice a3 l3 c3, .slice a4 l4 c4, .slice a5 l5 c5, .slice a6 l6 c6] ∧ ts = [Tok.num n0] ++ ([Tok.num n1] ++ (t2 ++ (t3 ++ (t4 ++ (t5 ++ t6))))) ∧ -9223372036854775808 ≤ n0 ∧ n0 < 9223372036854775808 ∧ -9223372036854775808 ≤ n1 ∧ n1 < 9223372036854775808 ∧ Is w S (.list shSchema) [.slice a2 l2 c2] t2 ∧ Is w S (.list shTable) [.slice a3 l3 c3] t3 ∧ Is w S (.list .text) [.slice a4 l4 c4] t4 ∧ Is w S (.list shMember) [.slice a5 l5 c5] t5 ∧ Is w S (.list shGrant) [.slice a6 l6 c6] t6 := by
  obtain ⟨_, _, _, _, rfl, rfl, ⟨n0, lo0, hi0, rfl, rfl⟩, ⟨_, _, _, _, rfl, rfl, ⟨n1, lo1, hi1, rfl, rfl⟩, ⟨_, _, t2, _, rfl, rfl, I2, ⟨_, _, t3, _, rfl, rfl, I3, ⟨_, _, t4, _, rfl, rfl, I4, ⟨_, _, t5, t6, rfl, rfl, I5, I6⟩⟩⟩⟩⟩⟩ := h
  obtain ⟨a2, l2, c2, rfl⟩ := I2.list_cells
  obtain ⟨a3, l3, c3, rfl⟩ := I3.list_cells
  obtain ⟨a4, l4, c4, rfl⟩ := I4.list_cells
  obtain ⟨a5, l5, c5, rfl⟩ := I5.list_cells
  obtain ⟨a6, l6, c6, rfl⟩ := I6.list_cells
  exact ⟨n0, n1, a2, l2, c2, a3, l3, c3, a4, l4, c4, a5, l5, c5, a6, l6, c6, t2, t3, t4, t5, t6, rfl, rfl, lo0, hi0, lo1, hi1, I2, I3, I4, I5, I6⟩
theorem cells_Catalog {w : World} {S : Nat → Prop} {cs : List Value} {ts : List Tok} (h : Is w S shCatalog cs ts) :
    ∃ (n0 : Int) (n1 : Int) (a2 : Option Addr) (l2 : Nat) (c2 : Nat) (a3 : Option Addr) (l3 : Nat) (c3 : Nat) (a4 : Option Addr) (l4 : Nat) (c4 : Nat) (a5 : Option Addr) (l5 : Nat) (c5 : Nat) (a6 : Option Addr) (l6 : Nat) (c6 : Nat), cs = [.int .i64 n0, .int .i64 n1, .slice a2 l2 c2, .slice a3 l3 c3, .slice a4 l4 c4, .slice a5 l5 c5, .slice a6 l6 c6] := by
  obtain ⟨n0, n1, a2, l2, c2, a3, l3, c3, a4, l4, c4, a5, l5, c5, a6, l6, c6, _, _, _, _, _, h, _⟩ := open_Catalog h
  exact ⟨n0, n1, a2, l2, c2, a3, l3, c3, a4, l4, c4, a5, l5, c5, a6, l6, c6, h⟩
theorem mk_Catalog {w : World} {S : Nat → Prop} {n0 : Int} {n1 : Int} {a2 : Option Addr} {l2 : Nat} {c2 : Nat} {a3 : Option Addr} {l3 : Nat} {c3 : Nat} {a4 : Option Addr} {l4 : Nat} {c4 : Nat} {a5 : Option Addr} {l5 : Nat} {c5 : Nat} {a6 : Option Addr} {l6 : Nat} {c6 : Nat} {t2 : List Tok} {t3 : List Tok} {t4 : List Tok} {t5 : List Tok} {t6 : List Tok} (lo0 : -9223372036854775808 ≤ n0) (hi0 : n0 < 9223372036854775808) (lo1 : -9223372036854775808 ≤ n1) (hi1 : n1 < 9223372036854775808) (I2 : Is w S (.list shSchema) [.slice a2 l2 c2] t2) (I3 : Is w S (.list shTable) [.slice a3 l3 c3] t3) (I4 : Is w S (.list .text) [.slice a4 l4 c4] t4) (I5 : Is w S (.list shMember) [.slice a5 l5 c5] t5) (I6 : Is w S (.list shGrant) [.slice a6 l6 c6] t6) :
    Is w S shCatalog [.int .i64 n0, .int .i64 n1, .slice a2 l2 c2, .slice a3 l3 c3, .slice a4 l4 c4, .slice a5 l5 c5, .slice a6 l6 c6] ([Tok.num n0] ++ ([Tok.num n1] ++ (t2 ++ (t3 ++ (t4 ++ (t5 ++ t6)))))) :=
  ⟨[.int .i64 n0], _, [Tok.num n0], _, rfl, rfl, ⟨n0, lo0, hi0, rfl, rfl⟩, ⟨[.int .i64 n1], _, [Tok.num n1], _, rfl, rfl, ⟨n1, lo1, hi1, rfl, rfl⟩, ⟨[.slice a2 l2 c2], _, t2, _, rfl, rfl, I2, ⟨[.slice a3 l3 c3], _, t3, _, rfl, rfl, I3, ⟨[.slice a4 l4 c4], _, t4, _, rfl, rfl, I4, ⟨[.slice a5 l5 c5], _, t5, _, rfl, rfl, I5, I6⟩⟩⟩⟩⟩⟩

def shCommand : Sh := .two .num (.two .text (.two .text (.two .text (.two .text (.two .text (.two (.list shColumn) (.two shRule (.two .num .flag))))))))
theorem open_Command {w : World} {S : Nat → Prop} {cs : List Value} {ts : List Tok} (h : Is w S shCommand cs ts) :
    ∃ (n0 : Int) (s1 : ByteArray) (s2 : ByteArray) (s3 : ByteArray) (s4 : ByteArray) (s5 : ByteArray) (a6 : Option Addr) (l6 : Nat) (c6 : Nat) (s7_0 : ByteArray) (n7_1 : Int) (a7_2 : Option Addr) (l7_2 : Nat) (c7_2 : Nat) (n7_3 : Int) (n7_4 : Int) (s7_5 : ByteArray) (s7_6 : ByteArray) (s7_7 : ByteArray) (n8 : Int) (b9 : Bool) (t6 : List Tok) (t7 : List Tok), cs = [.int .i64 n0, .string s1, .string s2, .string s3, .string s4, .string s5, .slice a6 l6 c6, .string s7_0, .int .i64 n7_1, .slice a7_2 l7_2 c7_2, .int .i64 n7_3, .int .i64 n7_4, .string s7_5, .string s7_6, .string s7_7, .int .i64 n8, .bool b9] ∧ ts = [Tok.num n0] ++ ([Tok.text s1.data.toList] ++ ([Tok.text s2.data.toList] ++ ([Tok.text s3.data.toList] ++ ([Tok.text s4.data.toList] ++ ([Tok.text s5.data.toList] ++ (t6 ++ (t7 ++ ([Tok.num n8] ++ [Tok.flag b9])))))))) ∧ -9223372036854775808 ≤ n0 ∧ n0 < 9223372036854775808 ∧ s1.size ≤ maxLen ∧ s2.size ≤ maxLen ∧ s3.size ≤ maxLen ∧ s4.size ≤ maxLen ∧ s5.size ≤ maxLen ∧ Is w S (.list shColumn) [.slice a6 l6 c6] t6 ∧ Is w S shRule [.string s7_0, .int .i64 n7_1, .slice a7_2 l7_2 c7_2, .int .i64 n7_3, .int .i64 n7_4, .string s7_5, .string s7_6, .string s7_7] t7 ∧ -9223372036854775808 ≤ n8 ∧ n8 < 9223372036854775808 := by
  obtain ⟨_, _, _, _, rfl, rfl, ⟨n0, lo0, hi0, rfl, rfl⟩, ⟨_, _, _, _, rfl, rfl, ⟨s1, hs1, rfl, rfl⟩, ⟨_, _, _, _, rfl, rfl, ⟨s2, hs2, rfl, rfl⟩, ⟨_, _, _, _, rfl, rfl, ⟨s3, hs3, rfl, rfl⟩, ⟨_, _, _, _, rfl, rfl, ⟨s4, hs4, rfl, rfl⟩, ⟨_, _, _, _, rfl, rfl, ⟨s5, hs5, rfl, rfl⟩, ⟨_, _, t6, _, rfl, rfl, I6, ⟨_, _, t7, _, rfl, rfl, I7, ⟨_, _, _, _, rfl, rfl, ⟨n8, lo8, hi8, rfl, rfl⟩, ⟨b9, rfl, rfl⟩⟩⟩⟩⟩⟩⟩⟩⟩⟩ := h
  obtain ⟨a6, l6, c6, rfl⟩ := I6.list_cells
  obtain ⟨s7_0, n7_1, a7_2, l7_2, c7_2, n7_3, n7_4, s7_5, s7_6, s7_7, rfl⟩ := cells_Rule I7
  exact ⟨n0, s1, s2, s3, s4, s5, a6, l6, c6, s7_0, n7_1, a7_2, l7_2, c7_2, n7_3, n7_4, s7_5, s7_6, s7_7, n8, b9, t6, t7, rfl, rfl, lo0, hi0, hs1, hs2, hs3, hs4, hs5, I6, I7, lo8, hi8⟩
theorem cells_Command {w : World} {S : Nat → Prop} {cs : List Value} {ts : List Tok} (h : Is w S shCommand cs ts) :
    ∃ (n0 : Int) (s1 : ByteArray) (s2 : ByteArray) (s3 : ByteArray) (s4 : ByteArray) (s5 : ByteArray) (a6 : Option Addr) (l6 : Nat) (c6 : Nat) (s7_0 : ByteArray) (n7_1 : Int) (a7_2 : Option Addr) (l7_2 : Nat) (c7_2 : Nat) (n7_3 : Int) (n7_4 : Int) (s7_5 : ByteArray) (s7_6 : ByteArray) (s7_7 : ByteArray) (n8 : Int) (b9 : Bool), cs = [.int .i64 n0, .string s1, .string s2, .string s3, .string s4, .string s5, .slice a6 l6 c6, .string s7_0, .int .i64 n7_1, .slice a7_2 l7_2 c7_2, .int .i64 n7_3, .int .i64 n7_4, .string s7_5, .string s7_6, .string s7_7, .int .i64 n8, .bool b9] := by
  obtain ⟨n0, s1, s2, s3, s4, s5, a6, l6, c6, s7_0, n7_1, a7_2, l7_2, c7_2, n7_3, n7_4, s7_5, s7_6, s7_7, n8, b9, _, _, h, _⟩ := open_Command h
  exact ⟨n0, s1, s2, s3, s4, s5, a6, l6, c6, s7_0, n7_1, a7_2, l7_2, c7_2, n7_3, n7_4, s7_5, s7_6, s7_7, n8, b9, h⟩
theorem mk_Command {w : World} {S : Nat → Prop} {n0 : Int} {s1 : ByteArray} {s2 : ByteArray} {s3 : ByteArray} {s4 : ByteArray} {s5 : ByteArray} {a6 : Option Addr} {l6 : Nat} {c6 : Nat} {s7_0 : ByteArray} {n7_1 : Int} {a7_2 : Option Addr} {l7_2 : Nat} {c7_2 : Nat} {n7_3 : Int} {n7_4 : Int} {s7_5 : ByteArray} {s7_6 : ByteArray} {s7_7 : ByteArray} {n8 : Int} {b9 : Bool} {t6 : List Tok} {t7 : List Tok} (lo0 : -9223372036854775808 ≤ n0) (hi0 : n0 < 9223372036854775808) (hs1 : s1.size ≤ maxLen) (hs2 : s2.size ≤ maxLen) (hs3 : s3.size ≤ maxLen) (hs4 : s4.size ≤ maxLen) (hs5 : s5.size ≤ maxLen) (I6 : Is w S (.list shColumn) [.slice a6 l6 c6] t6) (I7 : Is w S shRule [.string s7_0, .int .i64 n7_1, .slice a7_2 l7_2 c7_2, .int .i64 n7_3, .int .i64 n7_4, .string s7_5, .string s7_6, .string s7_7] t7) (lo8 : -9223372036854775808 ≤ n8) (hi8 : n8 < 9223372036854775808) :
    Is w S shCommand [.int .i64 n0, .string s1, .string s2, .string s3, .string s4, .string s5, .slice a6 l6 c6, .string s7_0, .int .i64 n7_1, .slice a7_2 l7_2 c7_2, .int .i64 n7_3, .int .i64 n7_4, .string s7_5, .string s7_6, .string s7_7, .int .i64 n8, .bool b9] ([Tok.num n0] ++ ([Tok.text s1.data.toList] ++ ([Tok.text s2.data.toList] ++ ([Tok.text s3.data.toList] ++ ([Tok.text s4.data.toList] ++ ([Tok.text s5.data.toList] ++ (t6 ++ (t7 ++ ([Tok.num n8] ++ [Tok.flag b9]))))))))) :=
  ⟨[.int .i64 n0], _, [Tok.num n0], _, rfl, rfl, ⟨n0, lo0, hi0, rfl, rfl⟩, ⟨[.string s1], _, [Tok.text s1.data.toList], _, rfl, rfl, ⟨s1, hs1, rfl, rfl⟩, ⟨[.string s2], _, [Tok.text s2.data.toList], _, rfl, rfl, ⟨s2, hs2, rfl, rfl⟩, ⟨[.string s3], _, [Tok.text s3.data.toList], _, rfl, rfl, ⟨s3, hs3, rfl, rfl⟩, ⟨[.string s4], _, [Tok.text s4.data.toList], _, rfl, rfl, ⟨s4, hs4, rfl, rfl⟩, ⟨[.string s5], _, [Tok.text s5.data.toList], _, rfl, rfl, ⟨s5, hs5, rfl, rfl⟩, ⟨[.slice a6 l6 c6], _, t6, _, rfl, rfl, I6, ⟨[.string s7_0, .int .i64 n7_1, .slice a7_2 l7_2 c7_2, .int .i64 n7_3, .int .i64 n7_4, .string s7_5, .string s7_6, .string s7_7], _, t7, _, rfl, rfl, I7, ⟨[.int .i64 n8], _, [Tok.num n8], _, rfl, rfl, ⟨n8, lo8, hi8, rfl, rfl⟩, ⟨b9, rfl, rfl⟩⟩⟩⟩⟩⟩⟩⟩⟩⟩

def shConfig : Sh := .two (.list .num) (.list .num)
theorem open_Config {w : World} {S : Nat → Prop} {cs : List Value} {ts : List Tok} (h : Is w S shConfig cs ts) :
    ∃ (a0 : Option Addr) (l0 : Nat) (c0 : Nat) (a1 : Option Addr) (l1 : Nat) (c1 : Nat) (t0 : List Tok) (t1 : List Tok), cs = [.slice a0 l0 c0, .slice a1 l1 c1] ∧ ts = t0 ++ t1 ∧ Is w S (.list .num) [.slice a0 l0 c0] t0 ∧ Is w S (.list .num) [.slice a1 l1 c1] t1 := by
  obtain ⟨_, _, t0, t1, rfl, rfl, I0, I1⟩ := h
  obtain ⟨a0, l0, c0, rfl⟩ := I0.list_cells
  obtain ⟨a1, l1, c1, rfl⟩ := I1.list_cells
  exact ⟨a0, l0, c0, a1, l1, c1, t0, t1, rfl, rfl, I0, I1⟩
theorem cells_Config {w : World} {S : Nat → Prop} {cs : List Value} {ts : List Tok} (h : Is w S shConfig cs ts) :
    ∃ (a0 : Option Addr) (l0 : Nat) (c0 : Nat) (a1 : Option Addr) (l1 : Nat) (c1 : Nat), cs = [.slice a0 l0 c0, .slice a1 l1 c1] := by
  obtain ⟨a0, l0, c0, a1, l1, c1, _, _, h, _⟩ := open_Config h
  exact ⟨a0, l0, c0, a1, l1, c1, h⟩
theorem mk_Config {w : World} {S : Nat → Prop} {a0 : Option Addr} {l0 : Nat} {c0 : Nat} {a1 : Option Addr} {l1 : Nat} {c1 : Nat} {t0 : List Tok} {t1 : List Tok} (I0 : Is w S (.list .num) [.slice a0 l0 c0] t0) (I1 : Is w S (.list .num) [.slice a1 l1 c1] t1) :
    Is w S shConfig [.slice a0 l0 c0, .slice a1 l1 c1] (t0 ++ t1) :=
  ⟨[.slice a0 l0 c0], _, t0, _, rfl, rfl, I0, I1⟩

def shEntry : Sh := .two .num (.two .num (.two .num (.two shConfig .text)))
theorem open_Entry {w : World} {S : Nat → Prop} {cs : List Value} {ts : List Tok} (h : Is w S shEntry cs ts) :
    ∃ (n0 : Int) (n1 : Int) (n2 : Int) (a3_0 : Option Addr) (l3_0 : Nat) (c3_0 : Nat) (a3_1 : Option Addr) (l3_1 : Nat) (c3_1 : Nat) (s4 : ByteArray) (t3 : List Tok), cs = [.int .i64 n0, .int .i64 n1, .int .i64 n2, .slice a3_0 l3_0 c3_0, .slice a3_1 l3_1 c3_1, .string s4] ∧ ts = [Tok.num n0] ++ ([Tok.num n1] ++ ([Tok.num n2] ++ (t3 ++ [Tok.text s4.data.toList]))) ∧ -9223372036854775808 ≤ n0 ∧ n0 < 9223372036854775808 ∧ -9223372036854775808 ≤ n1 ∧ n1 < 9223372036854775808 ∧ -9223372036854775808 ≤ n2 ∧ n2 < 9223372036854775808 ∧ Is w S shConfig [.slice a3_0 l3_0 c3_0, .slice a3_1 l3_1 c3_1] t3 ∧ s4.size ≤ maxLen := by
  obtain ⟨_, _, _, _, rfl, rfl, ⟨n0, lo0, hi0, rfl, rfl⟩, ⟨_, _, _, _, rfl, rfl, ⟨n1, lo1, hi1, rfl, rfl⟩, ⟨_, _, _, _, rfl, rfl, ⟨n2, lo2, hi2, rfl, rfl⟩, ⟨_, _, t3, _, rfl, rfl, I3, ⟨s4, hs4, rfl, rfl⟩⟩⟩⟩⟩ := h
  obtain ⟨a3_0, l3_0, c3_0, a3_1, l3_1, c3_1, rfl⟩ := cells_Config I3
  exact ⟨n0, n1, n2, a3_0, l3_0, c3_0, a3_1, l3_1, c3_1, s4, t3, rfl, rfl, lo0, hi0, lo1, hi1, lo2, hi2, I3, hs4⟩
theorem cells_Entry {w : World} {S : Nat → Prop} {cs : List Value} {ts : List Tok} (h : Is w S shEntry cs ts) :
    ∃ (n0 : Int) (n1 : Int) (n2 : Int) (a3_0 : Option Addr) (l3_0 : Nat) (c3_0 : Nat) (a3_1 : Option Addr) (l3_1 : Nat) (c3_1 : Nat) (s4 : ByteArray), cs = [.int .i64 n0, .int .i64 n1, .int .i64 n2, .slice a3_0 l3_0 c3_0, .slice a3_1 l3_1 c3_1, .string s4] := by
  obtain ⟨n0, n1, n2, a3_0, l3_0, c3_0, a3_1, l3_1, c3_1, s4, _, h, _⟩ := open_Entry h
  exact ⟨n0, n1, n2, a3_0, l3_0, c3_0, a3_1, l3_1, c3_1, s4, h⟩
theorem mk_Entry {w : World} {S : Nat → Prop} {n0 : Int} {n1 : Int} {n2 : Int} {a3_0 : Option Addr} {l3_0 : Nat} {c3_0 : Nat} {a3_1 : Option Addr} {l3_1 : Nat} {c3_1 : Nat} {s4 : ByteArray} {t3 : List Tok} (lo0 : -9223372036854775808 ≤ n0) (hi0 : n0 < 9223372036854775808) (lo1 : -9223372036854775808 ≤ n1) (hi1 : n1 < 9223372036854775808) (lo2 : -9223372036854775808 ≤ n2) (hi2 : n2 < 9223372036854775808) (I3 : Is w S shConfig [.slice a3_0 l3_0 c3_0, .slice a3_1 l3_1 c3_1] t3) (hs4 : s4.size ≤ maxLen) :
    Is w S shEntry [.int .i64 n0, .int .i64 n1, .int .i64 n2, .slice a3_0 l3_0 c3_0, .slice a3_1 l3_1 c3_1, .string s4] ([Tok.num n0] ++ ([Tok.num n1] ++ ([Tok.num n2] ++ (t3 ++ [Tok.text s4.data.toList])))) :=
  ⟨[.int .i64 n0], _, [Tok.num n0], _, rfl, rfl, ⟨n0, lo0, hi0, rfl, rfl⟩, ⟨[.int .i64 n1], _, [Tok.num n1], _, rfl, rfl, ⟨n1, lo1, hi1, rfl, rfl⟩, ⟨[.int .i64 n2], _, [Tok.num n2], _, rfl, rfl, ⟨n2, lo2, hi2, rfl, rfl⟩, ⟨[.slice a3_0 l3_0 c3_0, .slice a3_1 l3_1 c3_1], _, t3, _, rfl, rfl, I3, ⟨s4, hs4, rfl, rfl⟩⟩⟩⟩⟩

def shSnapshot : Sh := .two .num (.two .num (.two shConfig .text))
theorem open_Snapshot {w : World} {S : Nat → Prop} {cs : List Value} {ts : List Tok} (h : Is w S shSnapshot cs ts) :
    ∃ (n0 : Int) (n1 : Int) (a2_0 : Option Addr) (l2_0 : Nat) (c2_0 : Nat) (a2_1 : Option Addr) (l2_1 : Nat) (c2_1 : Nat) (s3 : ByteArray) (t2 : List Tok), cs = [.int .i64 n0, .int .i64 n1, .slice a2_0 l2_0 c2_0, .slice a2_1 l2_1 c2_1, .string s3] ∧ ts = [Tok.num n0] ++ ([Tok.num n1] ++ (t2 ++ [Tok.text s3.data.toList])) ∧ -9223372036854775808 ≤ n0 ∧ n0 < 9223372036854775808 ∧ -9223372036854775808 ≤ n1 ∧ n1 < 9223372036854775808 ∧ Is w S shConfig [.slice a2_0 l2_0 c2_0, .slice a2_1 l2_1 c2_1] t2 ∧ s3.size ≤ maxLen := by
  obtain ⟨_, _, _, _, rfl, rfl, ⟨n0, lo0, hi0, rfl, rfl⟩, ⟨_, _, _, _, rfl, rfl, ⟨n1, lo1, hi1, rfl, rfl⟩, ⟨_, _, t2, _, rfl, rfl, I2, ⟨s3, hs3, rfl, rfl⟩⟩⟩⟩ := h
  obtain ⟨a2_0, l2_0, c2_0, a2_1, l2_1, c2_1, rfl⟩ := cells_Config I2
  exact ⟨n0, n1, a2_0, l2_0, c2_0, a2_1, l2_1, c2_1, s3, t2, rfl, rfl, lo0, hi0, lo1, hi1, I2, hs3⟩
theorem cells_Snapshot {w : World} {S : Nat → Prop} {cs : List Value} {ts : List Tok} (h : Is w S shSnapshot cs ts) :
    ∃ (n0 : Int) (n1 : Int) (a2_0 : Option Addr) (l2_0 : Nat) (c2_0 : Nat) (a2_1 : Option Addr) (l2_1 : Nat) (c2_1 : Nat) (s3 : ByteArray), cs = [.int .i64 n0, .int .i64 n1, .slice a2_0 l2_0 c2_0, .slice a2_1 l2_1 c2_1, .string s3] := by
  obtain ⟨n0, n1, a2_0, l2_0, c2_0, a2_1, l2_1, c2_1, s3, _, h, _⟩ := open_Snapshot h
  exact ⟨n0, n1, a2_0, l2_0, c2_0, a2_1, l2_1, c2_1, s3, h⟩
theorem mk_Snapshot {w : World} {S : Nat → Prop} {n0 : Int} {n1 : Int} {a2_0 : Option Addr} {l2_0 : Nat} {c2_0 : Nat} {a2_1 : Option Addr} {l2_1 : Nat} {c2_1 : Nat} {s3 : ByteArray} {t2 : List Tok} (lo0 : -9223372036854775808 ≤ n0) (hi0 : n0 < 9223372036854775808) (lo1 : -9223372036854775808 ≤ n1) (hi1 : n1 < 9223372036854775808) (I2 : Is w S shConfig [.slice a2_0 l2_0 c2_0, .slice a2_1 l2_1 c2_1] t2) (hs3 : s3.size ≤ maxLen) :
    Is w S shSnapshot [.int .i64 n0, .int .i64 n1, .slice a2_0 l2_0 c2_0, .slice a2_1 l2_1 c2_1, .string s3] ([Tok.num n0] ++ ([Tok.num n1] ++ (t2 ++ [Tok.text s3.data.toList]))) :=
  ⟨[.int .i64 n0], _, [Tok.num n0], _, rfl, rfl, ⟨n0, lo0, hi0, rfl, rfl⟩, ⟨[.int .i64 n1], _, [Tok.num n1], _, rfl, rfl, ⟨n1, lo1, hi1, rfl, rfl⟩, ⟨[.slice a2_0 l2_0 c2_0, .slice a2_1 l2_1 c2_1], _, t2, _, rfl, rfl, I2, ⟨s3, hs3, rfl, rfl⟩⟩⟩⟩

def shRecord : Sh := .two .num (.two .num (.two .num (.two shEntry (.two .num shSnapshot))))
theorem open_Record {w : World} {S : Nat → Prop} {cs : List Value} {ts : List Tok} (h : Is w S shRecord cs ts) :
    ∃ (n0 : Int) (n1 : Int) (n2 : Int) (n3_0 : Int) (n3_1 : Int) (n3_2 : Int) (a3_3_0 : Option Addr) (l3_3_0 : Nat) (c3_3_0 : Nat) (a3_3_1 : Option Addr) (l3_3_1 : Nat) (c3_3_1 : Nat) (s3_4 : ByteArray) (n4 : Int) (n5_0 : Int) (n5_1 : Int) (a5_2_0 : Option Addr) (l5_2_0 : Nat) (c5_2_0 : Nat) (a5_2_1 : Option Addr) (l5_2_1 : Nat) (c5_2_1 : Nat) (s5_3 : ByteArray) (t3 : List Tok) (t5 : List Tok), cs = [.int .i64 n0, .int .i64 n1, .int .i64 n2, .int .i64 n3_0, .int .i64 n3_1, .int .i64 n3_2, .slice a3_3_0 l3_3_0 c3_3_0, .slice a3_3_1 l3_3_1 c3_3_1, .string s3_4, .int .i64 n4, .int .i64 n5_0, .int .i64 n5_1, .slice a5_2_0 l5_2_0 c5_2_0, .slice a5_2_1 l5_2_1 c5_2_1, .string s5_3] ∧ ts = [Tok.num n0] ++ ([Tok.num n1] ++ ([Tok.num n2] ++ (t3 ++ ([Tok.num n4] ++ t5)))) ∧ -9223372036854775808 ≤ n0 ∧ n0 < 9223372036854775808 ∧ -9223372036854775808 ≤ n1 ∧ n1 < 9223372036854775808 ∧ -9223372036854775808 ≤ n2 ∧ n2 < 9223372036854775808 ∧ Is w S shEntry [.int .i64 n3_0, .int .i64 n3_1, .int .i64 n3_2, .slice a3_3_0 l3_3_0 c3_3_0, .slice a3_3_1 l3_3_1 c3_3_1, .string s3_4] t3 ∧ -9223372036854775808 ≤ n4 ∧ n4 < 9223372036854775808 ∧ Is w S shSnapshot [.int .i64 n5_0, .int .i64 n5_1, .slice a5_2_0 l5_2_0 c5_2_0, .slice a5_2_1 l5_2_1 c5_2_1, .string s5_3] t5 := by
  obtain ⟨_, _, _, _, rfl, rfl, ⟨n0, lo0, hi0, rfl, rfl⟩, ⟨_, _, _, _, rfl, rfl, ⟨n1, lo1, hi1, rfl, rfl⟩, ⟨_, _, _, _, rfl, rfl, ⟨n2, lo2, hi2, rfl, rfl⟩, ⟨_, _, t3, _, rfl, rfl, I3, ⟨_, _, _, t5, rfl, rfl, ⟨n4, lo4, hi4, rfl, rfl⟩, I5⟩⟩⟩⟩⟩ := h
  obtain ⟨n3_0, n3_1, n3_2, a3_3_0, l3_3_0, c3_3_0, a3_3_1, l3_3_1, c3_3_1, s3_4, rfl⟩ := cells_Entry I3
  obtain ⟨n5_0, n5_1, a5_2_0, l5_2_0, c5_2_0, a5_2_1, l5_2_1, c5_2_1, s5_3, rfl⟩ := cells_Snapshot I5
  exact ⟨n0, n1, n2, n3_0, n3_1, n3_2, a3_3_0, l3_3_0, c3_3_0, a3_3_1, l3_3_1, c3_3_1, s3_4, n4, n5_0, n5_1, a5_2_0, l5_2_0, c5_2_0, a5_2_1, l5_2_1, c5_2_1, s5_3, t3, t5, rfl, rfl, lo0, hi0, lo1, hi1, lo2, hi2, I3, lo4, hi4, I5⟩
theorem cells_Record {w : World} {S : Nat → Prop} {cs : List Value} {ts : List Tok} (h : Is w S shRecord cs ts) :
    ∃ (n0 : Int) (n1 : Int) (n2 : Int) (n3_0 : Int) (n3_1 : Int) (n3_2 : Int) (a3_3_0 : Option Addr) (l3_3_0 : Nat) (c3_3_0 : Nat) (a3_3_1 : Option Addr) (l3_3_1 : Nat) (c3_3_1 : Nat) (s3_4 : ByteArray) (n4 : Int) (n5_0 : Int) (n5_1 : Int) (a5_2_0 : Option Addr) (l5_2_0 : Nat) (c5_2_0 : Nat) (a5_2_1 : Option Addr) (l5_2_1 : Nat) (c5_2_1 : Nat) (s5_3 : ByteArray), cs = [.int .i64 n0, .int .i64 n1, .int .i64 n2, .int .i64 n3_0, .int .i64 n3_1, .int .i64 n3_2, .slice a3_3_0 l3_3_0 c3_3_0, .slice a3_3_1 l3_3_1 c3_3_1, .string s3_4, .int .i64 n4, .int .i64 n5_0, .int .i64 n5_1, .slice a5_2_0 l5_2_0 c5_2_0, .slice a5_2_1 l5_2_1 c5_2_1, .string s5_3] := by
  obtain ⟨n0, n1, n2, n3_0, n3_1, n3_2, a3_3_0, l3_3_0, c3_3_0, a3_3_1, l3_3_1, c3_3_1, s3_4, n4, n5_0, n5_1, a5_2_0, l5_2_0, c5_2_0, a5_2_1, l5_2_1, c5_2_1, s5_3, _, _, h, _⟩ := open_Record h
  exact ⟨n0, n1, n2, n3_0, n3_1, n3_2, a3_3_0, l3_3_0, c3_3_0, a3_3_1, l3_3_1, c3_3_1, s3_4, n4, n5_0, n5_1, a5_2_0, l5_2_0, c5_2_0, a5_2_1, l5_2_1, c5_2_1, s5_3, h⟩
theorem mk_Record {w : World} {S : Nat → Prop} {n0 : Int} {n1 : Int} {n2 : Int} {n3_0 : Int} {n3_1 : Int} {n3_2 : Int} {a3_3_0 : Option Addr} {l3_3_0 : Nat} {c3_3_0 : Nat} {a3_3_1 : Option Addr} {l3_3_1 : Nat} {c3_3_1 : Nat} {s3_4 : ByteArray} {n4 : Int} {n5_0 : Int} {n5_1 : Int} {a5_2_0 : Option Addr} {l5_2_0 : Nat} {c5_2_0 : Nat} {a5_2_1 : Option Addr} {l5_2_1 : Nat} {c5_2_1 : Nat} {s5_3 : ByteArray} {t3 : List Tok} {t5 : List Tok} (lo0 : -9223372036854775808 ≤ n0) (hi0 : n0 < 9223372036854775808) (lo1 : -9223372036854775808 ≤ n1) (hi1 : n1 < 9223372036854775808) (lo2 : -9223372036854775808 ≤ n2) (hi2 : n2 < 9223372036854775808) (I3 : Is w S shEntry [.int .i64 n3_0, .int .i64 n3_1, .int .i64 n3_2, .slice a3_3_0 l3_3_0 c3_3_0, .slice a3_3_1 l3_3_1 c3_3_1, .string s3_4] t3) (lo4 : -9223372036854775808 ≤ n4) (hi4 : n4 < 9223372036854775808) (I5 : Is w S shSnapshot [.int .i64 n5_0, .int .i64 n5_1, .slice a5_2_0 l5_2_0 c5_2_0, .slice a5_2_1 l5_2_1 c5_2_1, .string s5_3] t5) :
    Is w S shRecord [.int .i64 n0, .int .i64 n1, .int .i64 n2, .int .i64 n3_0, .int .i64 n3_1, .int .i64 n3_2, .slice a3_3_0 l3_3_0 c3_3_0, .slice a3_3_1 l3_3_1 c3_3_1, .string s3_4, .int .i64 n4, .int .i64 n5_0, .int .i64 n5_1, .slice a5_2_0 l5_2_0 c5_2_0, .slice a5_2_1 l5_2_1 c5_2_1, .string s5_3] ([Tok.num n0] ++ ([Tok.num n1] ++ ([Tok.num n2] ++ (t3 ++ ([Tok.num n4] ++ t5))))) :=
  ⟨[.int .i64 n0], _, [Tok.num n0], _, rfl, rfl, ⟨n0, lo0, hi0, rfl, rfl⟩, ⟨[.int .i64 n1], _, [Tok.num n1], _, rfl, rfl, ⟨n1, lo1, hi1, rfl, rfl⟩, ⟨[.int .i64 n2], _, [Tok.num n2], _, rfl, rfl, ⟨n2, lo2, hi2, rfl, rfl⟩, ⟨[.int .i64 n3_0, .int .i64 n3_1, .int .i64 n3_2, .slice a3_3_0 l3_3_0 c3_3_0, .slice a3_3_1 l3_3_1 c3_3_1, .string s3_4], _, t3, _, rfl, rfl, I3, ⟨[.int .i64 n4], _, [Tok.num n4], _, rfl, rfl, ⟨n4, lo4, hi4, rfl, rfl⟩, I5⟩⟩⟩⟩⟩

def shOp : Sh := .two .num (.two .num (.two .num (.two shCommand (.two .num (.two .num .num)))))
theorem open_Op {w : World} {S : Nat → Prop} {cs : List Value} {ts : List Tok} (h : Is w S shOp cs ts) :
    ∃ (n0 : Int) (n1 : Int) (n2 : Int) (n3_0 : Int) (s3_1 : ByteArray) (s3_2 : ByteArray) (s3_3 : ByteArray) (s3_4 : ByteArray) (s3_5 : ByteArray) (a3_6 : Option Addr) (l3_6 : Nat) (c3_6 : Nat) (s3_7_0 : ByteArray) (n3_7_1 : Int) (a3_7_2 : Option Addr) (l3_7_2 : Nat) (c3_7_2 : Nat) (n3_7_3 : Int) (n3_7_4 : Int) (s3_7_5 : ByteArray) (s3_7_6 : ByteArray) (s3_7_7 : ByteArray) (n3_8 : Int) (b3_9 : Bool) (n4 : Int) (n5 : Int) (n6 : Int) (t3 : List Tok), cs = [.int .i64 n0, .int .i64 n1, .int .i64 n2, .int .i64 n3_0, .string s3_1, .string s3_2, .string s3_3, .string s3_4, .string s3_5, .slice a3_6 l3_6 c3_6, .string s3_7_0, .int .i64 n3_7_1, .slice a3_7_2 l3_7_2 c3_7_2, .int .i64 n3_7_3, .int .i64 n3_7_4, .string s3_7_5, .string s3_7_6, .string s3_7_7, .int .i64 n3_8, .bool b3_9, .int .i64 n4, .int .i64 n5, .int .i64 n6] ∧ ts = [Tok.num n0] ++ ([Tok.num n1] ++ ([Tok.num n2] ++ (t3 ++ ([Tok.num n4] ++ ([Tok.num n5] ++ [Tok.num n6]))))) ∧ -9223372036854775808 ≤ n0 ∧ n0 < 9223372036854775808 ∧ -9223372036854775808 ≤ n1 ∧ n1 < 9223372036854775808 ∧ -9223372036854775808 ≤ n2 ∧ n2 < 9223372036854775808 ∧ Is w S shCommand [.int .i64 n3_0, .string s3_1, .string s3_2, .string s3_3, .string s3_4, .string s3_5, .slice a3_6 l3_6 c3_6, .string s3_7_0, .int .i64 n3_7_1, .slice a3_7_2 l3_7_2 c3_7_2, .int .i64 n3_7_3, .int .i64 n3_7_4, .string s3_7_5, .string s3_7_6, .string s3_7_7, .int .i64 n3_8, .bool b3_9] t3 ∧ -9223372036854775808 ≤ n4 ∧ n4 < 9223372036854775808 ∧ -9223372036854775808 ≤ n5 ∧ n5 < 9223372036854775808 ∧ -9223372036854775808 ≤ n6 ∧ n6 < 9223372036854775808 := by
  obtain ⟨_, _, _, _, rfl, rfl, ⟨n0, lo0, hi0, rfl, rfl⟩, ⟨_, _, _, _, rfl, rfl, ⟨n1, lo1, hi1, rfl, rfl⟩, ⟨_, _, _, _, rfl, rfl, ⟨n2, lo2, hi2, rfl, rfl⟩, ⟨_, _, t3, _, rfl, rfl, I3, ⟨_, _, _, _, rfl, rfl, ⟨n4, lo4, hi4, rfl, rfl⟩, ⟨_, _, _, _, rfl, rfl, ⟨n5, lo5, hi5, rfl, rfl⟩, ⟨n6, lo6, hi6, rfl, rfl⟩⟩⟩⟩⟩⟩⟩ := h
  obtain ⟨n3_0, s3_1, s3_2, s3_3, s3_4, s3_5, a3_6, l3_6, c3_6, s3_7_0, n3_7_1, a3_7_2, l3_7_2, c3_7_2, n3_7_3, n3_7_4, s3_7_5, s3_7_6, s3_7_7, n3_8, b3_9, rfl⟩ := cells_Command I3
  exact ⟨n0, n1, n2, n3_0, s3_1, s3_2, s3_3, s3_4, s3_5, a3_6, l3_6, c3_6, s3_7_0, n3_7_1, a3_7_2, l3_7_2, c3_7_2, n3_7_3, n3_7_4, s3_7_5, s3_7_6, s3_7_7, n3_8, b3_9, n4, n5, n6, t3, rfl, rfl, lo0, hi0, lo1, hi1, lo2, hi2, I3, lo4, hi4, lo5, hi5, lo6, hi6⟩
theorem cells_Op {w : World} {S : Nat → Prop} {cs : List Value} {ts : List Tok} (h : Is w S shOp cs ts) :
    ∃ (n0 : Int) (n1 : Int) (n2 : Int) (n3_0 : Int) (s3_1 : ByteArray) (s3_2 : ByteArray) (s3_3 : ByteArray) (s3_4 : ByteArray) (s3_5 : ByteArray) (a3_6 : Option Addr) (l3_6 : Nat) (c3_6 : Nat) (s3_7_0 : ByteArray) (n3_7_1 : Int) (a3_7_2 : Option Addr) (l3_7_2 : Nat) (c3_7_2 : Nat) (n3_7_3 : Int) (n3_7_4 : Int) (s3_7_5 : ByteArray) (s3_7_6 : ByteArray) (s3_7_7 : ByteArray) (n3_8 : Int) (b3_9 : Bool) (n4 : Int) (n5 : Int) (n6 : Int), cs = [.int .i64 n0, .int .i64 n1, .int .i64 n2, .int .i64 n3_0, .string s3_1, .string s3_2, .string s3_3, .string s3_4, .string s3_5, .slice a3_6 l3_6 c3_6, .string s3_7_0, .int .i64 n3_7_1, .slice a3_7_2 l3_7_2 c3_7_2, .int .i64 n3_7_3, .int .i64 n3_7_4, .string s3_7_5, .string s3_7_6, .string s3_7_7, .int .i64 n3_8, .bool b3_9, .int .i64 n4, .int .i64 n5, .int .i64 n6] := by
  obtain ⟨n0, n1, n2, n3_0, s3_1, s3_2, s3_3, s3_4, s3_5, a3_6, l3_6, c3_6, s3_7_0, n3_7_1, a3_7_2, l3_7_2, c3_7_2, n3_7_3, n3_7_4, s3_7_5, s3_7_6, s3_7_7, n3_8, b3_9, n4, n5, n6, _, h, _⟩ := open_Op h
  exact ⟨n0, n1, n2, n3_0, s3_1, s3_2, s3_3, s3_4, s3_5, a3_6, l3_6, c3_6, s3_7_0, n3_7_1, a3_7_2, l3_7_2, c3_7_2, n3_7_3, n3_7_4, s3_7_5, s3_7_6, s3_7_7, n3_8, b3_9, n4, n5, n6, h⟩
theorem mk_Op {w : World} {S : Nat → Prop} {n0 : Int} {n1 : Int} {n2 : Int} {n3_0 : Int} {s3_1 : ByteArray} {s3_2 : ByteArray} {s3_3 : ByteArray} {s3_4 : ByteArray} {s3_5 : ByteArray} {a3_6 : Option Addr} {l3_6 : Nat} {c3_6 : Nat} {s3_7_0 : ByteArray} {n3_7_1 : Int} {a3_7_2 : Option Addr} {l3_7_2 : Nat} {c3_7_2 : Nat} {n3_7_3 : Int} {n3_7_4 : Int} {s3_7_5 : ByteArray} {s3_7_6 : ByteArray} {s3_7_7 : ByteArray} {n3_8 : Int} {b3_9 : Bool} {n4 : Int} {n5 : Int} {n6 : Int} {t3 : List Tok} (lo0 : -9223372036854775808 ≤ n0) (hi0 : n0 < 9223372036854775808) (lo1 : -9223372036854775808 ≤ n1) (hi1 : n1 < 9223372036854775808) (lo2 : -9223372036854775808 ≤ n2) (hi2 : n2 < 9223372036854775808) (I3 : Is w S shCommand [.int .i64 n3_0, .string s3_1, .string s3_2, .string s3_3, .string s3_4, .string s3_5, .slice a3_6 l3_6 c3_6, .string s3_7_0, .int .i64 n3_7_1, .slice a3_7_2 l3_7_2 c3_7_2, .int .i64 n3_7_3, .int .i64 n3_7_4, .string s3_7_5, .string s3_7_6, .string s3_7_7, .int .i64 n3_8, .bool b3_9] t3) (lo4 : -9223372036854775808 ≤ n4) (hi4 : n4 < 9223372036854775808) (lo5 : -9223372036854775808 ≤ n5) (hi5 : n5 < 9223372036854775808) (lo6 : -9223372036854775808 ≤ n6) (hi6 : n6 < 9223372036854775808) :
    Is w S shOp [.int .i64 n0, .int .i64 n1, .int .i64 n2, .int .i64 n3_0, .string s3_1, .string s3_2, .string s3_3, .string s3_4, .string s3_5, .slice a3_6 l3_6 c3_6, .string s3_7_0, .int .i64 n3_7_1, .slice a3_7_2 l3_7_2 c3_7_2, .int .i64 n3_7_3, .int .i64 n3_7_4, .string s3_7_5, .string s3_7_6, .string s3_7_7, .int .i64 n3_8, .bool b3_9, .int .i64 n4, .int .i64 n5, .int .i64 n6] ([Tok.num n0] ++ ([Tok.num n1] ++ ([Tok.num n2] ++ (t3 ++ ([Tok.num n4] ++ ([Tok.num n5] ++ [Tok.num n6])))))) :=
  ⟨[.int .i64 n0], _, [Tok.num n0], _, rfl, rfl, ⟨n0, lo0, hi0, rfl, rfl⟩, ⟨[.int .i64 n1], _, [Tok.num n1], _, rfl, rfl, ⟨n1, lo1, hi1, rfl, rfl⟩, ⟨[.int .i64 n2], _, [Tok.num n2], _, rfl, rfl, ⟨n2, lo2, hi2, rfl, rfl⟩, ⟨[.int .i64 n3_0, .string s3_1, .string s3_2, .string s3_3, .string s3_4, .string s3_5, .slice a3_6 l3_6 c3_6, .string s3_7_0, .int .i64 n3_7_1, .slice a3_7_2 l3_7_2 c3_7_2, .int .i64 n3_7_3, .int .i64 n3_7_4, .string s3_7_5, .string s3_7_6, .string s3_7_7, .int .i64 n3_8, .bool b3_9], _, t3, _, rfl, rfl, I3, ⟨[.int .i64 n4], _, [Tok.num n4], _, rfl, rfl, ⟨n4, lo4, hi4, rfl, rfl⟩, ⟨[.int .i64 n5], _, [Tok.num n5], _, rfl, rfl, ⟨n5, lo5, hi5, rfl, rfl⟩, ⟨n6, lo6, hi6, rfl, rfl⟩⟩⟩⟩⟩⟩⟩

def shLease : Sh := .two .num (.two .num (.two .num .num))
theorem open_Lease {w : World} {S : Nat → Prop} {cs : List Value} {ts : List Tok} (h : Is w S shLease cs ts) :
    ∃ (n0 : Int) (n1 : Int) (n2 : Int) (n3 : Int), cs = [.int .i64 n0, .int .i64 n1, .int .i64 n2, .int .i64 n3] ∧ ts = [Tok.num n0] ++ ([Tok.num n1] ++ ([Tok.num n2] ++ [Tok.num n3])) ∧ -9223372036854775808 ≤ n0 ∧ n0 < 9223372036854775808 ∧ -9223372036854775808 ≤ n1 ∧ n1 < 9223372036854775808 ∧ -9223372036854775808 ≤ n2 ∧ n2 < 9223372036854775808 ∧ -9223372036854775808 ≤ n3 ∧ n3 < 9223372036854775808 := by
  obtain ⟨_, _, _, _, rfl, rfl, ⟨n0, lo0, hi0, rfl, rfl⟩, ⟨_, _, _, _, rfl, rfl, ⟨n1, lo1, hi1, rfl, rfl⟩, ⟨_, _, _, _, rfl, rfl, ⟨n2, lo2, hi2, rfl, rfl⟩, ⟨n3, lo3, hi3, rfl, rfl⟩⟩⟩⟩ := h
  exact ⟨n0, n1, n2, n3, rfl, rfl, lo0, hi0, lo1, hi1, lo2, hi2, lo3, hi3⟩
theorem cells_Lease {w : World} {S : Nat → Prop} {cs : List Value} {ts : List Tok} (h : Is w S shLease cs ts) :
    ∃ (n0 : Int) (n1 : Int) (n2 : Int) (n3 : Int), cs = [.int .i64 n0, .int .i64 n1, .int .i64 n2, .int .i64 n3] := by
  obtain ⟨n0, n1, n2, n3, h, _⟩ := open_Lease h
  exact ⟨n0, n1, n2, n3, h⟩
theorem mk_Lease {w : World} {S : Nat → Prop} {n0 : Int} {n1 : Int} {n2 : Int} {n3 : Int} (lo0 : -9223372036854775808 ≤ n0) (hi0 : n0 < 9223372036854775808) (lo1 : -9223372036854775808 ≤ n1) (hi1 : n1 < 9223372036854775808) (lo2 : -9223372036854775808 ≤ n2) (hi2 : n2 < 9223372036854775808) (lo3 : -9223372036854775808 ≤ n3) (hi3 : n3 < 9223372036854775808) :
    Is w S shLease [.int .i64 n0, .int .i64 n1, .int .i64 n2, .int .i64 n3] ([Tok.num n0] ++ ([Tok.num n1] ++ ([Tok.num n2] ++ [Tok.num n3]))) :=
  ⟨[.int .i64 n0], _, [Tok.num n0], _, rfl, rfl, ⟨n0, lo0, hi0, rfl, rfl⟩, ⟨[.int .i64 n1], _, [Tok.num n1], _, rfl, rfl, ⟨n1, lo1, hi1, rfl, rfl⟩, ⟨[.int .i64 n2], _, [Tok.num n2], _, rfl, rfl, ⟨n2, lo2, hi2, rfl, rfl⟩, ⟨n3, lo3, hi3, rfl, rfl⟩⟩⟩⟩

def shDone : Sh := .two .num (.two .num (.two .num (.two .num .num)))
theorem open_Done {w : World} {S : Nat → Prop} {cs : List Value} {ts : List Tok} (h : Is w S shDone cs ts) :
    ∃ (n0 : Int) (n1 : Int) (n2 : Int) (n3 : Int) (n4 : Int), cs = [.int .i64 n0, .int .i64 n1, .int .i64 n2, .int .i64 n3, .int .i64 n4] ∧ ts = [Tok.num n0] ++ ([Tok.num n1] ++ ([Tok.num n2] ++ ([Tok.num n3] ++ [Tok.num n4]))) ∧ -9223372036854775808 ≤ n0 ∧ n0 < 9223372036854775808 ∧ -9223372036854775808 ≤ n1 ∧ n1 < 9223372036854775808 ∧ -9223372036854775808 ≤ n2 ∧ n2 < 9223372036854775808 ∧ -9223372036854775808 ≤ n3 ∧ n3 < 9223372036854775808 ∧ -9223372036854775808 ≤ n4 ∧ n4 < 9223372036854775808 := by
  obtain ⟨_, _, _, _, rfl, rfl, ⟨n0, lo0, hi0, rfl, rfl⟩, ⟨_, _, _, _, rfl, rfl, ⟨n1, lo1, hi1, rfl, rfl⟩, ⟨_, _, _, _, rfl, rfl, ⟨n2, lo2, hi2, rfl, rfl⟩, ⟨_, _, _, _, rfl, rfl, ⟨n3, lo3, hi3, rfl, rfl⟩, ⟨n4, lo4, hi4, rfl, rfl⟩⟩⟩⟩⟩ := h
  exact ⟨n0, n1, n2, n3, n4, rfl, rfl, lo0, hi0, lo1, hi1, lo2, hi2, lo3, hi3, lo4, hi4⟩
theorem cells_Done {w : World} {S : Nat → Prop} {cs : List Value} {ts : List Tok} (h : Is w S shDone cs ts) :
    ∃ (n0 : Int) (n1 : Int) (n2 : Int) (n3 : Int) (n4 : Int), cs = [.int .i64 n0, .int .i64 n1, .int .i64 n2, .int .i64 n3, .int .i64 n4] := by
  obtain ⟨n0, n1, n2, n3, n4, h, _⟩ := open_Done h
  exact ⟨n0, n1, n2, n3, n4, h⟩
theorem mk_Done {w : World} {S : Nat → Prop} {n0 : Int} {n1 : Int} {n2 : Int} {n3 : Int} {n4 : Int} (lo0 : -9223372036854775808 ≤ n0) (hi0 : n0 < 9223372036854775808) (lo1 : -9223372036854775808 ≤ n1) (hi1 : n1 < 9223372036854775808) (lo2 : -9223372036854775808 ≤ n2) (hi2 : n2 < 9223372036854775808) (lo3 : -9223372036854775808 ≤ n3) (hi3 : n3 < 9223372036854775808) (lo4 : -9223372036854775808 ≤ n4) (hi4 : n4 < 9223372036854775808) :
    Is w S shDone [.int .i64 n0, .int .i64 n1, .int .i64 n2, .int .i64 n3, .int .i64 n4] ([Tok.num n0] ++ ([Tok.num n1] ++ ([Tok.num n2] ++ ([Tok.num n3] ++ [Tok.num n4])))) :=
  ⟨[.int .i64 n0], _, [Tok.num n0], _, rfl, rfl, ⟨n0, lo0, hi0, rfl, rfl⟩, ⟨[.int .i64 n1], _, [Tok.num n1], _, rfl, rfl, ⟨n1, lo1, hi1, rfl, rfl⟩, ⟨[.int .i64 n2], _, [Tok.num n2], _, rfl, rfl, ⟨n2, lo2, hi2, rfl, rfl⟩, ⟨[.int .i64 n3], _, [Tok.num n3], _, rfl, rfl, ⟨n3, lo3, hi3, rfl, rfl⟩, ⟨n4, lo4, hi4, rfl, rfl⟩⟩⟩⟩⟩

def shMachine : Sh := .two shCatalog (.two (.list shDone) (.two (.list shLease) .num))
theorem open_Machine {w : World} {S : Nat → Prop} {cs : List Value} {ts : List Tok} (h : Is w S shMachine cs ts) :
    ∃ (n0_0 : Int) (n0_1 : Int) (a0_2 : Option Addr) (l0_2 : Nat) (c0_2 : Nat) (a0_3 : Option Addr) (l0_3 : Nat) (c0_3 : Nat) (a0_4 : Option Addr) (l0_4 : Nat) (c0_4 : Nat) (a0_5 : Option Addr) (l0_5 : Nat) (c0_5 : Nat) (a0_6 : Option Addr) (l0_6 : Nat) (c0_6 : Nat) (a1 : Option Addr) (l1 : Nat) (c1 : Nat) (a2 : Option Addr) (l2 : Nat) (c2 : Nat) (n3 : Int) (t0 : List Tok) (t1 : List Tok) (t2 : List Tok), cs = [.int .i64 n0_0, .int .i64 n0_1, .slice a0_2 l0_2 c0_2, .slice a0_3 l0_3 c0_3, .slice a0_4 l0_4 c0_4, .slice a0_5 l0_5 c0_5, .slice a0_6 l0_6 c0_6, .slice a1 l1 c1, .slice a2 l2 c2, .int .i64 n3] ∧ ts = t0 ++ (t1 ++ (t2 ++ [Tok.num n3])) ∧ Is w S shCatalog [.int .i64 n0_0, .int .i64 n0_1, .slice a0_2 l0_2 c0_2, .slice a0_3 l0_3 c0_3, .slice a0_4 l0_4 c0_4, .slice a0_5 l0_5 c0_5, .slice a0_6 l0_6 c0_6] t0 ∧ Is w S (.list shDone) [.slice a1 l1 c1] t1 ∧ Is w S (.list shLease) [.slice a2 l2 c2] t2 ∧ -9223372036854775808 ≤ n3 ∧ n3 < 9223372036854775808 := by
  obtain ⟨_, _, t0, _, rfl, rfl, I0, ⟨_, _, t1, _, rfl, rfl, I1, ⟨_, _, t2, _, rfl, rfl, I2, ⟨n3, lo3, hi3, rfl, rfl⟩⟩⟩⟩ := h
  obtain ⟨n0_0, n0_1, a0_2, l0_2, c0_2, a0_3, l0_3, c0_3, a0_4, l0_4, c0_4, a0_5, l0_5, c0_5, a0_6, l0_6, c0_6, rfl⟩ := cells_Catalog I0
  obtain ⟨a1, l1, c1, rfl⟩ := I1.list_cells
  obtain ⟨a2, l2, c2, rfl⟩ := I2.list_cells
  exact ⟨n0_0, n0_1, a0_2, l0_2, c0_2, a0_3, l0_3, c0_3, a0_4, l0_4, c0_4, a0_5, l0_5, c0_5, a0_6, l0_6, c0_6, a1, l1, c1, a2, l2, c2, n3, t0, t1, t2, rfl, rfl, I0, I1, I2, lo3, hi3⟩
theorem cells_Machine {w : World} {S : Nat → Prop} {cs : List Value} {ts : List Tok} (h : Is w S shMachine cs ts) :
    ∃ (n0_0 : Int) (n0_1 : Int) (a0_2 : Option Addr) (l0_2 : Nat) (c0_2 : Nat) (a0_3 : Option Addr) (l0_3 : Nat) (c0_3 : Nat) (a0_4 : Option Addr) (l0_4 : Nat) (c0_4 : Nat) (a0_5 : Option Addr) (l0_5 : Nat) (c0_5 : Nat) (a0_6 : Option Addr) (l0_6 : Nat) (c0_6 : Nat) (a1 : Option Addr) (l1 : Nat) (c1 : Nat) (a2 : Option Addr) (l2 : Nat) (c2 : Nat) (n3 : Int), cs = [.int .i64 n0_0, .int .i64 n0_1, .slice a0_2 l0_2 c0_2, .slice a0_3 l0_3 c0_3, .slice a0_4 l0_4 c0_4, .slice a0_5 l0_5 c0_5, .slice a0_6 l0_6 c0_6, .slice a1 l1 c1, .slice a2 l2 c2, .int .i64 n3] := by
  obtain ⟨n0_0, n0_1, a0_2, l0_2, c0_2, a0_3, l0_3, c0_3, a0_4, l0_4, c0_4, a0_5, l0_5, c0_5, a0_6, l0_6, c0_6, a1, l1, c1, a2, l2, c2, n3, _, _, _, h, _⟩ := open_Machine h
  exact ⟨n0_0, n0_1, a0_2, l0_2, c0_2, a0_3, l0_3, c0_3, a0_4, l0_4, c0_4, a0_5, l0_5, c0_5, a0_6, l0_6, c0_6, a1, l1, c1, a2, l2, c2, n3, h⟩
theorem mk_Machine {w : World} {S : Nat → Prop} {n0_0 : Int} {n0_1 : Int} {a0_2 : Option Addr} {l0_2 : Nat} {c0_2 : Nat} {a0_3 : Option Addr} {l0_3 : Nat} {c0_3 : Nat} {a0_4 : Option Addr} {l0_4 : Nat} {c0_4 : Nat} {a0_5 : Option Addr} {l0_5 : Nat} {c0_5 : Nat} {a0_6 : Option Addr} {l0_6 : Nat} {c0_6 : Nat} {a1 : Option Addr} {l1 : Nat} {c1 : Nat} {a2 : Option Addr} {l2 : Nat} {c2 : Nat} {n3 : Int} {t0 : List Tok} {t1 : List Tok} {t2 : List Tok} (I0 : Is w S shCatalog [.int .i64 n0_0, .int .i64 n0_1, .slice a0_2 l0_2 c0_2, .slice a0_3 l0_3 c0_3, .slice a0_4 l0_4 c0_4, .slice a0_5 l0_5 c0_5, .slice a0_6 l0_6 c0_6] t0) (I1 : Is w S (.list shDone) [.slice a1 l1 c1] t1) (I2 : Is w S (.list shLease) [.slice a2 l2 c2] t2) (lo3 : -9223372036854775808 ≤ n3) (hi3 : n3 < 9223372036854775808) :
    Is w S shMachine [.int .i64 n0_0, .int .i64 n0_1, .slice a0_2 l0_2 c0_2, .slice a0_3 l0_3 c0_3, .slice a0_4 l0_4 c0_4, .slice a0_5 l0_5 c0_5, .slice a0_6 l0_6 c0_6, .slice a1 l1 c1, .slice a2 l2 c2, .int .i64 n3] (t0 ++ (t1 ++ (t2 ++ [Tok.num n3]))) :=
  ⟨[.int .i64 n0_0, .int .i64 n0_1, .slice a0_2 l0_2 c0_2, .slice a0_3 l0_3 c0_3, .slice a0_4 l0_4 c0_4, .slice a0_5 l0_5 c0_5, .slice a0_6 l0_6 c0_6], _, t0, _, rfl, rfl, I0, ⟨[.slice a1 l1 c1], _, t1, _, rfl, rfl, I1, ⟨[.slice a2 l2 c2], _, t2, _, rfl, rfl, I2, ⟨n3, lo3, hi3, rfl, rfl⟩⟩⟩⟩

end Go.Proofs.Ytpepmjkkckgkkaa
