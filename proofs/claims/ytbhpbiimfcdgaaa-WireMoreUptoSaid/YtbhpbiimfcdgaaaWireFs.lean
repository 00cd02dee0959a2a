/-
  How the structs that come in read (made by wip/gen_wire.py)
-/
import Derived.Test.YtbhpbiimfcdgaaaWireF
import Derived.Test.YtbhpbiimfcdgaaaWireA
namespace Go.Proofs.Ytbhpbiimfcdgaaa
open Go.RowKit
set_option linter.unusedVariables false

set_option maxRecDepth 100000 in
set_option maxHeartbeats 2000000 in
theorem opn_Column : Opens Try.prog 138 shColumn :=
  opens_struct [(9, .text), (136, .num), (4, .flag)] Try.underlying138 (by simp) (by kernel_rfl) (List.forall_mem_cons.2 ⟨(opens_text Try.underlying9 (by kernel_rfl)), (List.forall_mem_cons.2 ⟨(opens_int true Try.underlying136 (by kernel_rfl)), (List.forall_mem_cons.2 ⟨(opens_flag Try.underlying4 (by kernel_rfl)), (by simp)⟩)⟩)⟩) (by kernel_rfl) (by kernel_rfl)
set_option maxRecDepth 100000 in
set_option maxHeartbeats 2000000 in
theorem opn_Rule : Opens Try.prog 27 shRule :=
  opens_struct [(9, .text), (24, .num), (25, (.list .text)), (3, .whole), (3, .whole), (9, .text), (9, .text), (9, .text)] Try.underlying27 (by simp) (by kernel_rfl) (List.forall_mem_cons.2 ⟨(opens_text Try.underlying9 (by kernel_rfl)), (List.forall_mem_cons.2 ⟨(opens_int true Try.underlying24 (by kernel_rfl)), (List.forall_mem_cons.2 ⟨(opens_list Try.underlying25 (by kernel_rfl) (opens_text Try.underlying9 (by kernel_rfl)) (by decide)), (List.forall_mem_cons.2 ⟨(opens_int false Try.underlying3 (by kernel_rfl)), (List.forall_mem_cons.2 ⟨(opens_int false Try.underlying3 (by kernel_rfl)), (List.forall_mem_cons.2 ⟨(opens_text Try.underlying9 (by kernel_rfl)), (List.forall_mem_cons.2 ⟨(opens_text Try.underlying9 (by kernel_rfl)), (List.forall_mem_cons.2 ⟨(opens_text Try.underlying9 (by kernel_rfl)), (by simp)⟩)⟩)⟩)⟩)⟩)⟩)⟩)⟩) (by kernel_rfl) (by kernel_rfl)
set_option maxRecDepth 100000 in
set_option maxHeartbeats 2000000 in
theorem opn_Command : Opens Try.prog 30 shCommand :=
  opens_struct [(22, .num), (9, .text), (9, .text), (9, .text), (9, .text), (9, .text), (23, (.list shColumn)), (27, shRule), (28, .num), (4, .flag)] Try.underlying30 (by simp) (by kernel_rfl) (List.forall_mem_cons.2 ⟨(opens_int true Try.underlying22 (by kernel_rfl)), (List.forall_mem_cons.2 ⟨(opens_text Try.underlying9 (by kernel_rfl)), (List.forall_mem_cons.2 ⟨(opens_text Try.underlying9 (by kernel_rfl)), (List.forall_mem_cons.2 ⟨(opens_text Try.underlying9 (by kernel_rfl)), (List.forall_mem_cons.2 ⟨(opens_text Try.underlying9 (by kernel_rfl)), (List.forall_mem_cons.2 ⟨(opens_text Try.underlying9 (by kernel_rfl)), (List.forall_mem_cons.2 ⟨(opens_list Try.underlying23 (by kernel_rfl) opn_Column (by decide)), (List.forall_mem_cons.2 ⟨opn_Rule, (List.forall_mem_cons.2 ⟨(opens_int true Try.underlying28 (by kernel_rfl)), (List.forall_mem_cons.2 ⟨(opens_flag Try.underlying4 (by kernel_rfl)), (by simp)⟩)⟩)⟩)⟩)⟩)⟩)⟩)⟩)⟩)⟩) (by kernel_rfl) (by kernel_rfl)
theorem room_Command {w : World} {S : Nat → Prop} {cs : List Value} {ts : List Tok} (h : Is w S shCommand cs ts) : Room [] ts := by
  have h1 := h.fit.most
  have h2 : shCommand.most ≤ 70368744177664 := of_decide_eq_true (by kernel_rfl)
  unfold Room; simp only [List.length_nil]; omega
set_option maxRecDepth 100000 in
set_option maxHeartbeats 2000000 in
theorem opn_Config : Opens Try.prog 59 shConfig :=
  opens_struct [(57, (.list .num)), (57, (.list .num))] Try.underlying59 (by simp) (by kernel_rfl) (List.forall_mem_cons.2 ⟨(opens_list Try.underlying57 (by kernel_rfl) (opens_int true Try.underlying3 (by kernel_rfl)) (by decide)), (List.forall_mem_cons.2 ⟨(opens_list Try.underlying57 (by kernel_rfl) (opens_int true Try.underlying3 (by kernel_rfl)) (by decide)), (by simp)⟩)⟩) (by kernel_rfl) (by kernel_rfl)
set_option maxRecDepth 100000 in
set_option maxHeartbeats 2000000 in
theorem opn_Entry : Opens Try.prog 61 shEntry :=
  opens_struct [(3, .num), (3, .num), (55, .num), (59, shConfig), (9, .text)] Try.underlying61 (by simp) (by kernel_rfl) (List.forall_mem_cons.2 ⟨(opens_int true Try.underlying3 (by kernel_rfl)), (List.forall_mem_cons.2 ⟨(opens_int true Try.underlying3 (by kernel_rfl)), (List.forall_mem_cons.2 ⟨(opens_int true Try.underlying55 (by kernel_rfl)), (List.forall_mem_cons.2 ⟨opn_Config, (List.forall_mem_cons.2 ⟨(opens_text Try.underlying9 (by kernel_rfl)), (by simp)⟩)⟩)⟩)⟩)⟩) (by kernel_rfl) (by kernel_rfl)
set_option maxRecDepth 100000 in
set_option maxHeartbeats 2000000 in
theorem opn_Snapshot : Opens Try.prog 63 shSnapshot :=
  opens_struct [(3, .num), (3, .num), (59, shConfig), (9, .text)] Try.underlying63 (by simp) (by kernel_rfl) (List.forall_mem_cons.2 ⟨(opens_int true Try.underlying3 (by kernel_rfl)), (List.forall_mem_cons.2 ⟨(opens_int true Try.underlying3 (by kernel_rfl)), (List.forall_mem_cons.2 ⟨opn_Config, (List.forall_mem_cons.2 ⟨(opens_text Try.underlying9 (by kernel_rfl)), (by simp)⟩)⟩)⟩)⟩) (by kernel_rfl) (by kernel_rfl)
set_option maxRecDepth 100000 in
set_option maxHeartbeats 2000000 in
theorem opn_Record : Opens Try.prog 65 shRecord :=
  opens_struct [(54, .num), (3, .num), (3, .num), (61, shEntry), (3, .num), (63, shSnapshot)] Try.underlying65 (by simp) (by kernel_rfl) (List.forall_mem_cons.2 ⟨(opens_int true Try.underlying54 (by kernel_rfl)), (List.forall_mem_cons.2 ⟨(opens_int true Try.underlying3 (by kernel_rfl)), (List.forall_mem_cons.2 ⟨(opens_int true Try.underlying3 (by kernel_rfl)), (List.forall_mem_cons.2 ⟨opn_Entry, (List.forall_mem_cons.2 ⟨(opens_int true Try.underlying3 (by kernel_rfl)), (List.forall_mem_cons.2 ⟨opn_Snapshot, (by simp)⟩)⟩)⟩)⟩)⟩)⟩) (by kernel_rfl) (by kernel_rfl)
theorem room_Record {w : World} {S : Nat → Prop} {cs : List Value} {ts : List Tok} (h : Is w S shRecord cs ts) : Room [] ts := by
  have h1 := h.fit.most
  have h2 : shRecord.most ≤ 70368744177664 := of_decide_eq_true (by kernel_rfl)
  unfold Room; simp only [List.length_nil]; omega
set_option maxRecDepth 100000 in
set_option maxHeartbeats 2000000 in
theorem opn_Op : Opens Try.prog 72 shOp :=
  opens_struct [(70, .num), (3, .num), (3, .num), (30, shCommand), (3, .num), (3, .num), (3, .num)] Try.underlying72 (by simp) (by kernel_rfl) (List.forall_mem_cons.2 ⟨(opens_int true Try.underlying70 (by kernel_rfl)), (List.forall_mem_cons.2 ⟨(opens_int true Try.underlying3 (by kernel_rfl)), (List.forall_mem_cons.2 ⟨(opens_int true Try.underlying3 (by kernel_rfl)), (List.forall_mem_cons.2 ⟨opn_Command, (List.forall_mem_cons.2 ⟨(opens_int true Try.underlying3 (by kernel_rfl)), (List.forall_mem_cons.2 ⟨(opens_int true Try.underlying3 (by kernel_rfl)), (List.forall_mem_cons.2 ⟨(opens_int true Try.underlying3 (by kernel_rfl)), (by simp)⟩)⟩)⟩)⟩)⟩)⟩)⟩) (by kernel_rfl) (by kernel_rfl)
theorem room_Op {w : World} {S : Nat → Prop} {cs : List Value} {ts : List Tok} (h : Is w S shOp cs ts) : Room [] ts := by
  have h1 := h.fit.most
  have h2 : shOp.most ≤ 70368744177664 := of_decide_eq_true (by kernel_rfl)
  unfold Room; simp only [List.length_nil]; omega
end Go.Proofs.Ytbhpbiimfcdgaaa
