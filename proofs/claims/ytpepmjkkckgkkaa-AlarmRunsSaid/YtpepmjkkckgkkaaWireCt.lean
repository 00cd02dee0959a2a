/-
  The document's reader: cells of the right kinds, thing by thing; what is shared by its methods (made by wip/gen_wire.py)
-/
import Derived.Test.YtpepmjkkckgkkaaWireCa
import Derived.Test.YtpepmjkkckgkkaaWireS
import Derived.Deep.WholeRow
namespace Go.Proofs.Ytpepmjkkckgkkaa
open Go.RowKit
set_option linter.unusedVariables false

theorem typed_Column {cs : List Value} (h : Typed shColumn cs) : ∃ (s0 : ByteArray) (n1 : Int) (b2 : Bool), cs = [.string s0, .int .i64 n1, .bool b2] := by
  obtain ⟨_, _, rfl, ⟨s0, rfl⟩, ⟨_, _, rfl, ⟨n1, rfl⟩, ⟨b2, rfl⟩⟩⟩ := h
  exact ⟨s0, n1, b2, rfl⟩
theorem mkT_Column {s0 : ByteArray} {n1 : Int} {b2 : Bool} : Typed shColumn [.string s0, .int .i64 n1, .bool b2] :=
  ⟨[.string s0], _, rfl, ⟨_, rfl⟩, ⟨[.int .i64 n1], _, rfl, ⟨_, rfl⟩, ⟨_, rfl⟩⟩⟩
theorem typed_Rule {cs : List Value} (h : Typed shRule cs) : ∃ (s0 : ByteArray) (n1 : Int) (a2 : Option Addr) (l2 : Nat) (c2 : Nat) (n3 : Int) (n4 : Int) (s5 : ByteArray) (s6 : ByteArray) (s7 : ByteArray), cs = [.string s0, .int .i64 n1, .slice a2 l2 c2, .int .i64 n3, .int .i64 n4, .string s5, .string s6, .string s7] := by
  obtain ⟨_, _, rfl, ⟨s0, rfl⟩, ⟨_, _, rfl, ⟨n1, rfl⟩, ⟨_, _, rfl, ⟨a2, l2, c2, rfl⟩, ⟨_, _, rfl, ⟨n3, rfl⟩, ⟨_, _, rfl, ⟨n4, rfl⟩, ⟨_, _, rfl, ⟨s5, rfl⟩, ⟨_, _, rfl, ⟨s6, rfl⟩, ⟨s7, rfl⟩⟩⟩⟩⟩⟩⟩⟩ := h
  exact ⟨s0, n1, a2, l2, c2, n3, n4, s5, s6, s7, rfl⟩
theorem mkT_Rule {s0 : ByteArray} {n1 : Int} {a2 : Option Addr} {l2 : Nat} {c2 : Nat} {n3 : Int} {n4 : Int} {s5 : ByteArray} {s6 : ByteArray} {s7 : ByteArray} : Typed shRule [.string s0, .int .i64 n1, .slice a2 l2 c2, .int .i64 n3, .int .i64 n4, .string s5, .string s6, .string s7] :=
  ⟨[.string s0], _, rfl, ⟨_, rfl⟩, ⟨[.int .i64 n1], _, rfl, ⟨_, rfl⟩, ⟨[.slice a2 l2 c2], _, rfl, ⟨_, _, _, rfl⟩, ⟨[.int .i64 n3], _, rfl, ⟨_, rfl⟩, ⟨[.int .i64 n4], _, rfl, ⟨_, rfl⟩, ⟨[.string s5], _, rfl, ⟨_, rfl⟩, ⟨[.string s6], _, rfl, ⟨_, rfl⟩, ⟨_, rfl⟩⟩⟩⟩⟩⟩⟩⟩
theorem typed_Table {cs : List Value} (h : Typed shTable cs) : ∃ (s0 : ByteArray) (s1 : ByteArray) (s2 : ByteArray) (a3 : Option Addr) (l3 : Nat) (c3 : Nat) (a4 : Option Addr) (l4 : Nat) (c4 : Nat), cs = [.string s0, .string s1, .string s2, .slice a3 l3 c3, .slice a4 l4 c4] := by
  obtain ⟨_, _, rfl, ⟨s0, rfl⟩, ⟨_, _, rfl, ⟨s1, rfl⟩, ⟨_, _, rfl, ⟨s2, rfl⟩, ⟨_, _, rfl, ⟨a3, l3, c3, rfl⟩, ⟨a4, l4, c4, rfl⟩⟩⟩⟩⟩ := h
  exact ⟨s0, s1, s2, a3, l3, c3, a4, l4, c4, rfl⟩
theorem mkT_Table {s0 : ByteArray} {s1 : ByteArray} {s2 : ByteArray} {a3 : Option Addr} {l3 : Nat} {c3 : Nat} {a4 : Option Addr} {l4 : Nat} {c4 : Nat} : Typed shTable [.string s0, .string s1, .string s2, .slice a3 l3 c3, .slice a4 l4 c4] :=
  ⟨[.string s0], _, rfl, ⟨_, rfl⟩, ⟨[.string s1], _, rfl, ⟨_, rfl⟩, ⟨[.string s2], _, rfl, ⟨_, rfl⟩, ⟨[.slice a3 l3 c3], _, rfl, ⟨_, _, _, rfl⟩, ⟨_, _, _, rfl⟩⟩⟩⟩⟩
theorem typed_Schema {cs : List Value} (h : Typed shSchema cs) : ∃ (s0 : ByteArray) (s1 : ByteArray), cs = [.string s0, .string s1] := by
  obtain ⟨_, _, rfl, ⟨s0, rfl⟩, ⟨s1, rfl⟩⟩ := h
  exact ⟨s0, s1, rfl⟩
theorem mkT_Schema {s0 : ByteArray} {s1 : ByteArray} : Typed shSchema [.string s0, .string s1] :=
  ⟨[.string s0], _, rfl, ⟨_, rfl⟩, ⟨_, rfl⟩⟩
theorem typed_Member {cs : List Value} (h : Typed shMember cs) : ∃ (s0 : ByteArray) (s1 : ByteArray), cs = [.string s0, .string s1] := by
  obtain ⟨_, _, rfl, ⟨s0, rfl⟩, ⟨s1, rfl⟩⟩ := h
  exact ⟨s0, s1, rfl⟩
theorem mkT_Member {s0 : ByteArray} {s1 : ByteArray} : Typed shMember [.string s0, .string s1] :=
  ⟨[.string s0], _, rfl, ⟨_, rfl⟩, ⟨_, rfl⟩⟩
theorem typed_Grant {cs : List Value} (h : Typed shGrant cs) : ∃ (s0 : ByteArray) (s1 : ByteArray) (n2 : Int) (s3 : ByteArray) (s4 : ByteArray) (b5 : Bool), cs = [.string s0, .string s1, .int .i64 n2, .string s3, .string s4, .bool b5] := by
  obtain ⟨_, _, rfl, ⟨s0, rfl⟩, ⟨_, _, rfl, ⟨s1, rfl⟩, ⟨_, _, rfl, ⟨n2, rfl⟩, ⟨_, _, rfl, ⟨s3, rfl⟩, ⟨_, _, rfl, ⟨s4, rfl⟩, ⟨b5, rfl⟩⟩⟩⟩⟩⟩ := h
  exact ⟨s0, s1, n2, s3, s4, b5, rfl⟩
theorem mkT_Grant {s0 : ByteArray} {s1 : ByteArray} {n2 : Int} {s3 : ByteArray} {s4 : ByteArray} {b5 : Bool} : Typed shGrant [.string s0, .string s1, .int .i64 n2, .string s3, .string s4, .bool b5] :=
  ⟨[.string s0], _, rfl, ⟨_, rfl⟩, ⟨[.string s1], _, rfl, ⟨_, rfl⟩, ⟨[.int .i64 n2], _, rfl, ⟨_, rfl⟩, ⟨[.string s3], _, rfl, ⟨_, rfl⟩, ⟨[.string s4], _, rfl, ⟨_, rfl⟩, ⟨_, rfl⟩⟩⟩⟩⟩⟩
theorem typed_Objects {cs : List Value} (h : Typed shObjects cs) : ∃ (a0 : Option Addr) (l0 : Nat) (c0 : Nat) (a1 : Option Addr) (l1 : Nat) (c1 : Nat), cs = [.slice a0 l0 c0, .slice a1 l1 c1] := by
  obtain ⟨_, _, rfl, ⟨a0, l0, c0, rfl⟩, ⟨a1, l1, c1, rfl⟩⟩ := h
  exact ⟨a0, l0, c0, a1, l1, c1, rfl⟩
theorem mkT_Objects {a0 : Option Addr} {l0 : Nat} {c0 : Nat} {a1 : Option Addr} {l1 : Nat} {c1 : Nat} : Typed shObjects [.slice a0 l0 c0, .slice a1 l1 c1] :=
  ⟨[.slice a0 l0 c0], _, rfl, ⟨_, _, _, rfl⟩, ⟨_, _, _, rfl⟩⟩
theorem typed_Catalog {cs : List Value} (h : Typed shCatalog cs) : ∃ (n0 : Int) (n1 : Int) (a2 : Option Addr) (l2 : Nat) (c2 : Nat) (a3 : Option Addr) (l3 : Nat) (c3 : Nat) (a4 : Option Addr) (l4 : Nat) (c4 : Nat) (a5 : Option Addr) (l5 : Nat) (c5 : Nat) (a6 : Option Addr) (l6 : Nat) (c6 : Nat), cs = [.int .i64 n0, .int .i64 n1, .slice a2 l2 c2, .slice a3 l3 c3, .slice a4 l4 c4, .slice a5 l5 c5, .slice a6 l6 c6] := by
  obtain ⟨_, _, rfl, ⟨n0, rfl⟩, ⟨_, _, rfl, ⟨n1, rfl⟩, ⟨_, _, rfl, ⟨a2, l2, c2, rfl⟩, ⟨_, _, rfl, ⟨a3, l3, c3, rfl⟩, ⟨_, _, rfl, ⟨a4, l4, c4, rfl⟩, ⟨_, _, rfl, ⟨a5, l5, c5, rfl⟩, ⟨a6, l6, c6, rfl⟩⟩⟩⟩⟩⟩⟩ := h
  exact ⟨n0, n1, a2, l2, c2, a3, l3, c3, a4, l4, c4, a5, l5, c5, a6, l6, c6, rfl⟩
theorem mkT_Catalog {n0 : Int} {n1 : Int} {a2 : Option Addr} {l2 : Nat} {c2 : Nat} {a3 : Option Addr} {l3 : Nat} {c3 : Nat} {a4 : Option Addr} {l4 : Nat} {c4 : Nat} {a5 : Option Addr} {l5 : Nat} {c5 : Nat} {a6 : Option Addr} {l6 : Nat} {c6 : Nat} : Typed shCatalog [.int .i64 n0, .int .i64 n1, .slice a2 l2 c2, .slice a3 l3 c3, .slice a4 l4 c4, .slice a5 l5 c5, .slice a6 l6 c6] :=
  ⟨[.int .i64 n0], _, rfl, ⟨_, rfl⟩, ⟨[.int .i64 n1], _, rfl, ⟨_, rfl⟩, ⟨[.slice a2 l2 c2], _, rfl, ⟨_, _, _, rfl⟩, ⟨[.slice a3 l3 c3], _, rfl, ⟨_, _, _, rfl⟩, ⟨[.slice a4 l4 c4], _, rfl, ⟨_, _, _, rfl⟩, ⟨[.slice a5 l5 c5], _, rfl, ⟨_, _, _, rfl⟩, ⟨_, _, _, rfl⟩⟩⟩⟩⟩⟩⟩
theorem typed_Command {cs : List Value} (h : Typed shCommand cs) : ∃ (n0 : Int) (s1 : ByteArray) (s2 : ByteArray) (s3 : ByteArray) (s4 : ByteArray) (s5 : ByteArray) (a6 : Option Addr) (l6 : Nat) (c6 : Nat) (s7_0 : ByteArray) (n7_1 : Int) (a7_2 : Option Addr) (l7_2 : Nat) (c7_2 : Nat) (n7_3 : Int) (n7_4 : Int) (s7_5 : ByteArray) (s7_6 : ByteArray) (s7_7 : ByteArray) (n8 : Int) (b9 : Bool), cs = [.int .i64 n0, .string s1, .string s2, .string s3, .string s4, .string s5, .slice a6 l6 c6, .string s7_0, .int .i64 n7_1, .slice a7_2 l7_2 c7_2, .int .i64 n7_3, .int .i64 n7_4, .string s7_5, .string s7_6, .string s7_7, .int .i64 n8, .bool b9] := by
  obtain ⟨_, _, rfl, ⟨n0, rfl⟩, ⟨_, _, rfl, ⟨s1, rfl⟩, ⟨_, _, rfl, ⟨s2, rfl⟩, ⟨_, _, rfl, ⟨s3, rfl⟩, ⟨_, _, rfl, ⟨s4, rfl⟩, ⟨_, _, rfl, ⟨s5, rfl⟩, ⟨_, _, rfl, ⟨a6, l6, c6, rfl⟩, ⟨_, _, rfl, I7, ⟨_, _, rfl, ⟨n8, rfl⟩, ⟨b9, rfl⟩⟩⟩⟩⟩⟩⟩⟩⟩⟩ := h
  obtain ⟨s7_0, n7_1, a7_2, l7_2, c7_2, n7_3, n7_4, s7_5, s7_6, s7_7, rfl⟩ := typed_Rule I7
  exact ⟨n0, s1, s2, s3, s4, s5, a6, l6, c6, s7_0, n7_1, a7_2, l7_2, c7_2, n7_3, n7_4, s7_5, s7_6, s7_7, n8, b9, rfl⟩
theorem mkT_Command {n0 : Int} {s1 : ByteArray} {s2 : ByteArray} {s3 : ByteArray} {s4 : ByteArray} {s5 : ByteArray} {a6 : Option Addr} {l6 : Nat} {c6 : Nat} {s7_0 : ByteArray} {n7_1 : Int} {a7_2 : Option Addr} {l7_2 : Nat} {c7_2 : Nat} {n7_3 : Int} {n7_4 : Int} {s7_5 : ByteArray} {s7_6 : ByteArray} {s7_7 : ByteArray} {n8 : Int} {b9 : Bool} : Typed shCommand [.int .i64 n0, .string s1, .string s2, .string s3, .string s4, .string s5, .slice a6 l6 c6, .string s7_0, .int .i64 n7_1, .slice a7_2 l7_2 c7_2, .int .i64 n7_3, .int .i64 n7_4, .string s7_5, .string s7_6, .string s7_7, .int .i64 n8, .bool b9] :=
  ⟨[.int .i64 n0], _, rfl, ⟨_, rfl⟩, ⟨[.string s1], _, rfl, ⟨_, rfl⟩, ⟨[.string s2], _, rfl, ⟨_, rfl⟩, ⟨[.string s3], _, rfl, ⟨_, rfl⟩, ⟨[.string s4], _, rfl, ⟨_, rfl⟩, ⟨[.string s5], _, rfl, ⟨_, rfl⟩, ⟨[.slice a6 l6 c6], _, rfl, ⟨_, _, _, rfl⟩, ⟨[.string s7_0, .int .i64 n7_1, .slice a7_2 l7_2 c7_2, .int .i64 n7_3, .int .i64 n7_4, .string s7_5, .string s7_6, .string s7_7], _, rfl, mkT_Rule, ⟨[.int .i64 n8], _, rfl, ⟨_, rfl⟩, ⟨_, rfl⟩⟩⟩⟩⟩⟩⟩⟩⟩⟩
theorem typed_Config {cs : List Value} (h : Typed shConfig cs) : ∃ (a0 : Option Addr) (l0 : Nat) (c0 : Nat) (a1 : Option Addr) (l1 : Nat) (c1 : Nat), cs = [.slice a0 l0 c0, .slice a1 l1 c1] := by
  obtain ⟨_, _, rfl, ⟨a0, l0, c0, rfl⟩, ⟨a1, l1, c1, rfl⟩⟩ := h
  exact ⟨a0, l0, c0, a1, l1, c1, rfl⟩
theorem mkT_Config {a0 : Option Addr} {l0 : Nat} {c0 : Nat} {a1 : Option Addr} {l1 : Nat} {c1 : Nat} : Typed shConfig [.slice a0 l0 c0, .slice a1 l1 c1] :=
  ⟨[.slice a0 l0 c0], _, rfl, ⟨_, _, _, rfl⟩, ⟨_, _, _, rfl⟩⟩
theorem typed_Entry {cs : List Value} (h : Typed shEntry cs) : ∃ (n0 : Int) (n1 : Int) (n2 : Int) (a3_0 : Option Addr) (l3_0 : Nat) (c3_0 : Nat) (a3_1 : Option Addr) (l3_1 : Nat) (c3_1 : Nat) (s4 : ByteArray), cs = [.int .i64 n0, .int .i64 n1, .int .i64 n2, .slice a3_0 l3_0 c3_0, .slice a3_1 l3_1 c3_1, .string s4] := by
  obtain ⟨_, _, rfl, ⟨n0, rfl⟩, ⟨_, _, rfl, ⟨n1, rfl⟩, ⟨_, _, rfl, ⟨n2, rfl⟩, ⟨_, _, rfl, I3, ⟨s4, rfl⟩⟩⟩⟩⟩ := h
  obtain ⟨a3_0, l3_0, c3_0, a3_1, l3_1, c3_1, rfl⟩ := typed_Config I3
  exact ⟨n0, n1, n2, a3_0, l3_0, c3_0, a3_1, l3_1, c3_1, s4, rfl⟩
theorem mkT_Entry {n0 : Int} {n1 : Int} {n2 : Int} {a3_0 : Option Addr} {l3_0 : Nat} {c3_0 : Nat} {a3_1 : Option Addr} {l3_1 : Nat} {c3_1 : Nat} {s4 : ByteArray} : Typed shEntry [.int .i64 n0, .int .i64 n1, .int .i64 n2, .slice a3_0 l3_0 c3_0, .slice a3_1 l3_1 c3_1, .string s4] :=
  ⟨[.int .i64 n0], _, rfl, ⟨_, rfl⟩, ⟨[.int .i64 n1], _, rfl, ⟨_, rfl⟩, ⟨[.int .i64 n2], _, rfl, ⟨_, rfl⟩, ⟨[.slice a3_0 l3_0 c3_0, .slice a3_1 l3_1 c3_1], _, rfl, mkT_Config, ⟨_, rfl⟩⟩⟩⟩⟩
theorem typed_Snapshot {cs : List Value} (h : Typed shSnapshot cs) : ∃ (n0 : Int) (n1 : Int) (a2_0 : Option Addr) (l2_0 : Nat) (c2_0 : Nat) (a2_1 : Option Addr) (l2_1 : Nat) (c2_1 : Nat) (s3 : ByteArray), cs = [.int .i64 n0, .int .i64 n1, .slice a2_0 l2_0 c2_0, .slice a2_1 l2_1 c2_1, .string s3] := by
  obtain ⟨_, _, rfl, ⟨n0, rfl⟩, ⟨_, _, rfl, ⟨n1, rfl⟩, ⟨_, _, rfl, I2, ⟨s3, rfl⟩⟩⟩⟩ := h
  obtain ⟨a2_0, l2_0, c2_0, a2_1, l2_1, c2_1, rfl⟩ := typed_Config I2
  exact ⟨n0, n1, a2_0, l2_0, c2_0, a2_1, l2_1, c2_1, s3, rfl⟩
theorem mkT_Snapshot {n0 : Int} {n1 : Int} {a2_0 : Option Addr} {l2_0 : Nat} {c2_0 : Nat} {a2_1 : Option Addr} {l2_1 : Nat} {c2_1 : Nat} {s3 : ByteArray} : Typed shSnapshot [.int .i64 n0, .int .i64 n1, .slice a2_0 l2_0 c2_0, .slice a2_1 l2_1 c2_1, .string s3] :=
  ⟨[.int .i64 n0], _, rfl, ⟨_, rfl⟩, ⟨[.int .i64 n1], _, rfl, ⟨_, rfl⟩, ⟨[.slice a2_0 l2_0 c2_0, .slice a2_1 l2_1 c2_1], _, rfl, mkT_Config, ⟨_, rfl⟩⟩⟩⟩
theorem typed_Record {cs : List Value} (h : Typed shRecord cs) : ∃ (n0 : Int) (n1 : Int) (n2 : Int) (n3_0 : Int) (n3_1 : Int) (n3_2 : Int) (a3_3_0 : Option Addr) (l3_3_0 : Nat) (c3_3_0 : Nat) (a3_3_1 : Option Addr) (l3_3_1 : Nat) (c3_3_1 : Nat) (s3_4 : ByteArray) (n4 : Int) (n5_0 : Int) (n5_1 : Int) (a5_2_0 : Option Addr) (l5_2_0 : Nat) (c5_2_0 : Nat) (a5_2_1 : Option Addr) (l5_2_1 : Nat) (c5_2_1 : Nat) (s5_3 : ByteArray), cs = [.int .i64 n0, .int .i64 n1, .int .i64 n2, .int .i64 n3_0, .int .i64 n3_1, .int .i64 n3_2, .slice a3_3_0 l3_3_0 c3_3_0, .slice a3_3_1 l3_3_1 c3_3_1, .string s3_4, .int .i64 n4, .int .i64 n5_0, .int .i64 n5_1, .slice a5_2_0 l5_2_0 c5_2_0, .slice a5_2_1 l5_2_1 c5_2_1, .string s5_3] := by
  obtain ⟨_, _, rfl, ⟨n0, rfl⟩, ⟨_, _, rfl, ⟨n1, rfl⟩, ⟨_, _, rfl, ⟨n2, rfl⟩, ⟨_, _, rfl, I3, ⟨_, _, rfl, ⟨n4, rfl⟩, I5⟩⟩⟩⟩⟩ := h
  obtain ⟨n3_0, n3_1, n3_2, a3_3_0, l3_3_0, c3_3_0, a3_3_1, l3_3_1, c3_3_1, s3_4, rfl⟩ := typed_Entry I3
  obtain ⟨n5_0, n5_1, a5_2_0, l5_2_0, c5_2_0, a5_2_1, l5_2_1, c5_2_1, s5_3, rfl⟩ := typed_Snapshot I5
  exact ⟨n0, n1, n2, n3_0, n3_1, n3_2, a3_3_0, l3_3_0, c3_3_0, a3_3_1, l3_3_1, c3_3_1, s3_4, n4, n5_0, n5_1, a5_2_0, l5_2_0, c5_2_0, a5_2_1, l5_2_1, c5_2_1, s5_3, rfl⟩
theorem mkT_Record {n0 : Int} {n1 : Int} {n2 : Int} {n3_0 : Int} {n3_1 : Int} {n3_2 : Int} {a3_3_0 : Option Addr} {l3_3_0 : Nat} {c3_3_0 : Nat} {a3_3_1 : Option Addr} {l3_3_1 : Nat} {c3_3_1 : Nat} {s3_4 : ByteArray} {n4 : Int} {n5_0 : Int} {n5_1 : Int} {a5_2_0 : Option Addr} {l5_2_0 : Nat} {c5_2_0 : Nat} {a5_2_1 : Option Addr} {l5_2_1 : Nat} {c5_2_1 : Nat} {s5_3 : ByteArray} : Typed shRecord [.int .i64 n0, .int .i64 n1, .int .i64 n2, .int .i64 n3_0, .int .i64 n3_1, .int .i64 n3_2, .slice a3_3_0 l3_3_0 c3_3_0, .slice a3_3_1 l3_3_1 c3_3_1, .string s3_4, .int .i64 n4, .int .i64 n5_0, .int .i64 n5_1, .slice a5_2_0 l5_2_0 c5_2_0, .slice a5_2_1 l5_2_1 c5_2_1, .string s5_3] :=
  ⟨[.int .i64 n0], _, rfl, ⟨_, rfl⟩, ⟨[.int .i64 n1], _, rfl, ⟨_, rfl⟩, ⟨[.int .i64 n2], _, rfl, ⟨_, rfl⟩, ⟨[.int .i64 n3_0, .int .i64 n3_1, .int .i64 n3_2, .slice a3_3_0 l3_3_0 c3_3_0, .slice a3_3_1 l3_3_1 c3_3_1, .string s3_4], _, rfl, mkT_Entry, ⟨[.int .i64 n4], _, rfl, ⟨_, rfl⟩, mkT_Snapshot⟩⟩⟩⟩⟩
theorem typed_Op {cs : List Value} (h : Typed shOp cs) : ∃ (n0 : Int) (n1 : Int) (n2 : Int) (n3_0 : Int) (s3_1 : ByteArray) (s3_2 : ByteArray) (s3_3 : ByteArray) (s3_4 : ByteArray) (s3_5 : ByteArray) (a3_6 : Option Addr) (l3_6 : Nat) (c3_6 : Nat) (s3_7_0 : ByteArray) (n3_7_1 : Int) (a3_7_2 : Option Addr) (l3_7_2 : Nat) (c3_7_2 : Nat) (n3_7_3 : Int) (n3_7_4 : Int) (s3_7_5 : ByteArray) (s3_7_6 : ByteArray) (s3_7_7 : ByteArray) (n3_8 : Int) (b3_9 : Bool) (n4 : Int) (n5 : Int) (n6 : Int), cs = [.int .i64 n0, .int .i64 n1, .int .i64 n2, .int .i64 n3_0, .string s3_1, .string s3_2, .string s3_3, .string s3_4, .string s3_5, .slice a3_6 l3_6 c3_6, .string s3_7_0, .int .i64 n3_7_1, .slice a3_7_2 l3_7_2 c3_7_2, .int .i64 n3_7_3, .int .i64 n3_7_4, .string s3_7_5, .string s3_7_6, .string s3_7_7, .int .i64 n3_8, .bool b3_9, .int .i64 n4, .int .i64 n5, .int .i64 n6] := by
  obtain ⟨_, _, rfl, ⟨n0, rfl⟩, ⟨_, _, rfl, ⟨n1, rfl⟩, ⟨_, _, rfl, ⟨n2, rfl⟩, ⟨_, _, rfl, I3, ⟨_, _, rfl, ⟨n4, rfl⟩, ⟨_, _, rfl, ⟨n5, rfl⟩, ⟨n6, rfl⟩⟩⟩⟩⟩⟩⟩ := h
  obtain ⟨n3_0, s3_1, s3_2, s3_3, s3_4, s3_5, a3_6, l3_6, c3_6, s3_7_0, n3_7_1, a3_7_2, l3_7_2, c3_7_2, n3_7_3, n3_7_4, s3_7_5, s3_7_6, s3_7_7, n3_8, b3_9, rfl⟩ := typed_Command I3
  exact ⟨n0, n1, n2, n3_0, s3_1, s3_2, s3_3, s3_4, s3_5, a3_6, l3_6, c3_6, s3_7_0, n3_7_1, a3_7_2, l3_7_2, c3_7_2, n3_7_3, n3_7_4, s3_7_5, s3_7_6, s3_7_7, n3_8, b3_9, n4, n5, n6, rfl⟩
theorem mkT_Op {n0 : Int} {n1 : Int} {n2 : Int} {n3_0 : Int} {s3_1 : ByteArray} {s3_2 : ByteArray} {s3_3 : ByteArray} {s3_4 : ByteArray} {s3_5 : ByteArray} {a3_6 : Option Addr} {l3_6 : Nat} {c3_6 : Nat} {s3_7_0 : ByteArray} {n3_7_1 : Int} {a3_7_2 : Option Addr} {l3_7_2 : Nat} {c3_7_2 : Nat} {n3_7_3 : Int} {n3_7_4 : Int} {s3_7_5 : ByteArray} {s3_7_6 : ByteArray} {s3_7_7 : ByteArray} {n3_8 : Int} {b3_9 : Bool} {n4 : Int} {n5 : Int} {n6 : Int} : Typed shOp [.int .i64 n0, .int .i64 n1, .int .i64 n2, .int .i64 n3_0, .string s3_1, .string s3_2, .string s3_3, .string s3_4, .string s3_5, .slice a3_6 l3_6 c3_6, .string s3_7_0, .int .i64 n3_7_1, .slice a3_7_2 l3_7_2 c3_7_2, .int .i64 n3_7_3, .int .i64 n3_7_4, .string s3_7_5, .string s3_7_6, .string s3_7_7, .int .i64 n3_8, .bool b3_9, .int .i64 n4, .int .i64 n5, .int .i64 n6] :=
  ⟨[.int .i64 n0], _, rfl, ⟨_, rfl⟩, ⟨[.int .i64 n1], _, rfl, ⟨_, rfl⟩, ⟨[.int .i64 n2], _, rfl, ⟨_, rfl⟩, ⟨[.int .i64 n3_0, .string s3_1, .string s3_2, .string s3_3, .string s3_4, .string s3_5, .slice a3_6 l3_6 c3_6, .string s3_7_0, .int .i64 n3_7_1, .slice a3_7_2 l3_7_2 c3_7_2, .int .i64 n3_7_3, .int .i64 n3_7_4, .string s3_7_5, .string s3_7_6, .string s3_7_7, .int .i64 n3_8, .bool b3_9], _, rfl, mkT_Command, ⟨[.int .i64 n4], _, rfl, ⟨_, rfl⟩, ⟨[.int .i64 n5], _, rfl, ⟨_, rfl⟩, ⟨_, rfl⟩⟩⟩⟩⟩⟩⟩
theorem typed_Lease {cs : List Value} (h : Typed shLease cs) : ∃ (n0 : Int) (n1 : Int) (n2 : Int) (n3 : Int), cs = [.int .i64 n0, .int .i64 n1, .int .i64 n2, .int .i64 n3] := by
  obtain ⟨_, _, rfl, ⟨n0, rfl⟩, ⟨_, _, rfl, ⟨n1, rfl⟩, ⟨_, _, rfl, ⟨n2, rfl⟩, ⟨n3, rfl⟩⟩⟩⟩ := h
  exact ⟨n0, n1, n2, n3, rfl⟩
theorem mkT_Lease {n0 : Int} {n1 : Int} {n2 : Int} {n3 : Int} : Typed shLease [.int .i64 n0, .int .i64 n1, .int .i64 n2, .int .i64 n3] :=
  ⟨[.int .i64 n0], _, rfl, ⟨_, rfl⟩, ⟨[.int .i64 n1], _, rfl, ⟨_, rfl⟩, ⟨[.int .i64 n2], _, rfl, ⟨_, rfl⟩, ⟨_, rfl⟩⟩⟩⟩
theorem typed_Done {cs : List Value} (h : Typed shDone cs) : ∃ (n0 : Int) (n1 : Int) (n2 : Int) (n3 : Int) (n4 : Int), cs = [.int .i64 n0, .int .i64 n1, .int .i64 n2, .int .i64 n3, .int .i64 n4] := by
  obtain ⟨_, _, rfl, ⟨n0, rfl⟩, ⟨_, _, rfl, ⟨n1, rfl⟩, ⟨_, _, rfl, ⟨n2, rfl⟩, ⟨_, _, rfl, ⟨n3, rfl⟩, ⟨n4, rfl⟩⟩⟩⟩⟩ := h
  exact ⟨n0, n1, n2, n3, n4, rfl⟩
theorem mkT_Done {n0 : Int} {n1 : Int} {n2 : Int} {n3 : Int} {n4 : Int} : Typed shDone [.int .i64 n0, .int .i64 n1, .int .i64 n2, .int .i64 n3, .int .i64 n4] :=
  ⟨[.int .i64 n0], _, rfl, ⟨_, rfl⟩, ⟨[.int .i64 n1], _, rfl, ⟨_, rfl⟩, ⟨[.int .i64 n2], _, rfl, ⟨_, rfl⟩, ⟨[.int .i64 n3], _, rfl, ⟨_, rfl⟩, ⟨_, rfl⟩⟩⟩⟩⟩
theorem typed_Machine {cs : List Value} (h : Typed shMachine cs) : ∃ (n0_0 : Int) (n0_1 : Int) (a0_2 : Option Addr) (l0_2 : Nat) (c0_2 : Nat) (a0_3 : Option Addr) (l0_3 : Nat) (c0_3 : Nat) (a0_4 : Option Addr) (l0_4 : Nat) (c0_4 : Nat) (a0_5 : Option Addr) (l0_5 : Nat) (c0_5 : Nat) (a0_6 : Option Addr) (l0_6 : Nat) (c0_6 : Nat) (a1 : Option Addr) (l1 : Nat) (c1 : Nat) (a2 : Option Addr) (l2 : Nat) (c2 : Nat) (n3 : Int), cs = [.int .i64 n0_0, .int .i64 n0_1, .slice a0_2 l0_2 c0_2, .slice a0_3 l0_3 c0_3, .slice a0_4 l0_4 c0_4, .slice a0_5 l0_5 c0_5, .slice a0_6 l0_6 c0_6, .slice a1 l1 c1, .slice a2 l2 c2, .int .i64 n3] := by
  obtain ⟨_, _, rfl, I0, ⟨_, _, rfl, ⟨a1, l1, c1, rfl⟩, ⟨_, _, rfl, ⟨a2, l2, c2, rfl⟩, ⟨n3, rfl⟩⟩⟩⟩ := h
  obtain ⟨n0_0, n0_1, a0_2, l0_2, c0_2, a0_3, l0_3, c0_3, a0_4, l0_4, c0_4, a0_5, l0_5, c0_5, a0_6, l0_6, c0_6, rfl⟩ := typed_Catalog I0
  exact ⟨n0_0, n0_1, a0_2, l0_2, c0_2, a0_3, l0_3, c0_3, a0_4, l0_4, c0_4, a0_5, l0_5, c0_5, a0_6, l0_6, c0_6, a1, l1, c1, a2, l2, c2, n3, rfl⟩
theorem mkT_Machine {n0_0 : Int} {n0_1 : Int} {a0_2 : Option Addr} {l0_2 : Nat} {c0_2 : Nat} {a0_3 : Option Addr} {l0_3 : Nat} {c0_3 : Nat} {a0_4 : Option Addr} {l0_4 : Nat} {c0_4 : Nat} {a0_5 : Option Addr} {l0_5 : Nat} {c0_5 : Nat} {a0_6 : Option Addr} {l0_6 : Nat} {c0_6 : Nat} {a1 : Option Addr} {l1 : Nat} {c1 : Nat} {a2 : Option Addr} {l2 : Nat} {c2 : Nat} {n3 : Int} : Typed shMachine [.int .i64 n0_0, .int .i64 n0_1, .slice a0_2 l0_2 c0_2, .slice a0_3 l0_3 c0_3, .slice a0_4 l0_4 c0_4, .slice a0_5 l0_5 c0_5, .slice a0_6 l0_6 c0_6, .slice a1 l1 c1, .slice a2 l2 c2, .int .i64 n3] :=
  ⟨[.int .i64 n0_0, .int .i64 n0_1, .slice a0_2 l0_2 c0_2, .slice a0_3 l0_3 c0_3, .slice a0_4 l0_4 c0_4, .slice a0_5 l0_5 c0_5, .slice a0_6 l0_6 c0_6], _, rfl, mkT_Catalog, ⟨[.slice a1 l1 c1], _, rfl, ⟨_, _, _, rfl⟩, ⟨[.slice a2 l2 c2], _, rfl, ⟨_, _, _, rfl⟩, ⟨_, rfl⟩⟩⟩⟩

def putAll (cs : Array Value) (o : Nat) : List Value → Array Value
  | [] => cs
  | v :: r => putAll (cs.setIfInBounds o v) (o + 1) r
theorem setCells_row {w : World} {b : Nat} {t : TypeId} : ∀ (vs : List Value) (o : Nat) (w : World) (cs : Array Value), w.heap[b]? = some (.cells cs t (0, 0)) → (w.setCells b o vs).heap[b]? = some (.cells (putAll cs o vs) t (0, 0))
  | [], _, _, _, h => h
  | v :: r, o, w, cs, h => setCells_row (w := w) r (o + 1) _ _ (heap_setCell_same w b o cs t v h)
theorem setCells_other {b k : Nat} (hk : k ≠ b) : ∀ (vs : List Value) (o : Nat) (w : World), (w.setCells b o vs).heap[k]? = w.heap[k]?
  | [], _, _ => rfl
  | v :: r, o, w => (setCells_other hk r (o + 1) _).trans (Below.heap_setCell _ _ _ _ (by simpa using hk))
theorem setCells_mid {b : Nat} {t : TypeId} : ∀ (vs mid pre post : List Value) (w : World), mid.length = vs.length → w.heap[b]? = some (.cells (pre ++ (mid ++ post)).toArray t (0, 0)) →
    (w.setCells b pre.length vs).heap[b]? = some (.cells (pre ++ (vs ++ post)).toArray t (0, 0))
  | [], mid, pre, post, w, hl, h => by
    obtain rfl := List.eq_nil_of_length_eq_zero hl
    exact h
  | v :: r, [], pre, post, w, hl, h => by simp at hl
  | v :: r, m :: mid, pre, post, w, hl, h => by
    have e := heap_setCell_same w b pre.length _ t v h
    have e2 : (pre ++ (m :: mid ++ post)).toArray.setIfInBounds pre.length v = ((pre ++ [v]) ++ (mid ++ post)).toArray := by
      apply Array.ext'
      simp
    rw [e2] at e
    have := setCells_mid r mid (pre ++ [v]) post (w.setCell ⟨b, pre.length, none⟩ v) (by simpa using hl) e
    simpa [World.setCells] using this
/-- A part of a struct is stored; the world behind it under a name. -/
theorem wpList_store_part {P : Program} {ops : Array Oper} {rest : List Oper} {op : Oper} {a : Act} {w : World} {Q : Exit → Act → World → Prop} (hgd : op.guard = none) (ty : TypeId) (x y : Operand) (ho : op.op = .store ty x y)
    (b o : Nat) (cells : Array Value) (hx : a.eval x = .pointer (some ⟨b, o, none⟩)) (hy : a.eval y = .agg cells) (n : Nat) (hn : cells.size = n)
    (ht : w.there b o n) (hi : (P.info? ty).map (·.size) = some n) (h1 : cells.all (·.oneCell') = true) (w' : World) (hw : w.setCells b o cells.toList = w')
    (h : wpList P ops Q rest (a.put op.dst undef) w') : wpList P ops Q (op :: rest) a w := by
  subst hn
  subst hw
  exact wpList_store_mid hgd ty x y ho b o cells hx hy ht hi h1 h
/-- A struct is stored into the block that was made last. -/
theorem wpList_store_last {P : Program} {ops : Array Oper} {rest : List Oper} {op : Oper} {a : Act} {Q : Exit → Act → World → Prop} (w0 : World) (hgd : op.guard = none) (ty : TypeId) (x y : Operand) (ho : op.op = .store ty x y)
    (T : TypeId) (c c' : Array Value) (n : Nat) (hn : w0.heap.size = n) (hx : a.eval x = .pointer (some ⟨n, 0, none⟩)) (hy : a.eval y = .agg c')
    (hi : (P.info? ty).map (·.size) = some c'.size) (hs : c.size = c'.size) (h1 : c'.all (·.oneCell') = true)
    (h : wpList P ops Q rest (a.put op.dst undef) (w0.alloc (.cells c' T))) : wpList P ops Q (op :: rest) a (w0.alloc (.cells c T)) := by
  subst hn
  have e := World.setRow_alloc_new w0 c c' T
  rw [← e] at h
  exact wpList_store_row hgd ty x y ho w0.heap.size T c c' hx hy (heap_alloc_new w0 _) hi hs h1 h
theorem there_row {w : World} {b : Nat} {cs : Array Value} {t : TypeId} (h : w.heap[b]? = some (.cells cs t (0, 0))) (o n : Nat) (hn : o + n ≤ cs.size) : w.there b o n :=
  fun j hj => ⟨by rw [cell_of_row w b _ cs t (0, 0) h, Array.getElem?_eq_getElem (by omega)]; rfl, frozen_of_row w b _ cs t h⟩
/-- A block of one's own (b) has turned. -/
theorem keeps_own {S : Nat → Prop} {w w1 w2 : World} (h : Keeps S w w1) {b : Nat} (hb : w.heap.size ≤ b) (hs : w1.heap.size = w2.heap.size) (ho : w2.os = w1.os) (ht : w2.tape = w1.tape) (hp : w2.output = w1.output) (hk : ∀ k, k ≠ b → w2.heap[k]? = w1.heap[k]?) : Keeps S w w2 :=
  ⟨ho.trans h.os, ht.trans h.tape, hp.trans h.output, hs ▸ h.size, fun k hk' hS => (hk k (by omega)).trans (h.block k hk' hS)⟩
theorem keeps_set {S : Nat → Prop} {w w1 : World} (h : Keeps S w w1) {b o : Nat} {v : Value} (hb : w.heap.size ≤ b) : Keeps S w (w1.setCell ⟨b, o, none⟩ v) :=
  keeps_own h hb (by simp [World.setCell]) rfl rfl rfl fun k hk => Below.heap_setCell _ _ _ _ (by simpa using hk)
theorem setCells_shape (b : Nat) : ∀ (vs : List Value) (o : Nat) (w : World), (w.setCells b o vs).heap.size = w.heap.size ∧ (w.setCells b o vs).os = w.os ∧ (w.setCells b o vs).tape = w.tape ∧ (w.setCells b o vs).output = w.output
  | [], _, _ => ⟨rfl, rfl, rfl, rfl⟩
  | v :: r, o, w => by
    have := setCells_shape b r (o + 1) (w.setCell ⟨b, o, none⟩ v)
    exact ⟨this.1.trans (by simp [World.setCell]), this.2.1, this.2.2.1, this.2.2.2⟩
theorem keeps_sets {S : Nat → Prop} {w w1 : World} (h : Keeps S w w1) {b o : Nat} {vs : List Value} (hb : w.heap.size ≤ b) : Keeps S w (w1.setCells b o vs) := by
  obtain ⟨h1, h2, h3, h4⟩ := setCells_shape b vs o w1
  exact keeps_own h hb h1.symm h2 h3 h4 fun k hk => setCells_other hk vs o w1
theorem row_set {w : World} {b o k : Nat} {v : Value} {ob : Obj} (h : w.heap[k]? = some ob) (hk : k ≠ b) : (w.setCell ⟨b, o, none⟩ v).heap[k]? = some ob := (Below.heap_setCell _ _ _ _ (by simpa using hk)).trans h
theorem row_sets {w : World} {b o k : Nat} {vs : List Value} {ob : Obj} (h : w.heap[k]? = some ob) (hk : k ≠ b) : (w.setCells b o vs).heap[k]? = some ob := (setCells_other hk vs o w).trans h
end Go.Proofs.Ytpepmjkkckgkkaa
