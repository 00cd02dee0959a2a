/-
  How the structs that come in read, their bytes bounded by their bulk (made by wip/gen_wire.py)
-/
import Derived.Test.YtbhpbiimfcdgaaaWireFb
namespace Go.Proofs.Ytbhpbiimfcdgaaa
open Go.RowKit
set_option linter.unusedVariables false

set_option maxRecDepth 100000 in
set_option maxHeartbeats 2000000 in
theorem opnB_Column : OpensB Try.prog 138 shColumn :=
  opensB_struct [(9, .text), (136, .num), (4, .flag)] Try.underlying138 (by simp) (by kernel_rfl) (List.forall_mem_cons.2 ⟨(opensB_text Try.underlying9 (by kernel_rfl)), (List.forall_mem_cons.2 ⟨(opensB_int true Try.underlying136 (by kernel_rfl)), (List.forall_mem_cons.2 ⟨(opensB_flag Try.underlying4 (by kernel_rfl)), (by simp)⟩)⟩)⟩) (by kernel_rfl) (by kernel_rfl)
set_option maxRecDepth 100000 in
set_option maxHeartbeats 2000000 in
theorem opnB_Rule : OpensB Try.prog 27 shRule :=
  opensB_struct [(9, .text), (24, .num), (25, (.list .text)), (3, .whole), (3, .whole), (9, .text), (9, .text), (9, .text)] Try.underlying27 (by simp) (by kernel_rfl) (List.forall_mem_cons.2 ⟨(opensB_text Try.underlying9 (by kernel_rfl)), (List.forall_mem_cons.2 ⟨(opensB_int true Try.underlying24 (by kernel_rfl)), (List.forall_mem_cons.2 ⟨(opensB_list Try.underlying25 (by kernel_rfl) (opensB_text Try.underlying9 (by kernel_rfl)) (by decide)), (List.forall_mem_cons.2 ⟨(opensB_int false Try.underlying3 (by kernel_rfl)), (List.forall_mem_cons.2 ⟨(opensB_int false Try.underlying3 (by kernel_rfl)), (List.forall_mem_cons.2 ⟨(opensB_text Try.underlying9 (by kernel_rfl)), (List.forall_mem_cons.2 ⟨(opensB_text Try.underlying9 (by kernel_rfl)), (List.forall_mem_cons.2 ⟨(opensB_text Try.underlying9 (by kernel_rfl)), (by simp)⟩)⟩)⟩)⟩)⟩)⟩)⟩)⟩) (by kernel_rfl) (by kernel_rfl)
set_option maxRecDepth 100000 in
set_option maxHeartbeats 2000000 in
theorem opnB_Table : OpensB Try.prog 170 shTable :=
  opensB_struct [(9, .text), (9, .text), (9, .text), (23, (.list shColumn)), (168, (.list shRule))] Try.underlying170 (by simp) (by kernel_rfl) (List.forall_mem_cons.2 ⟨(opensB_text Try.underlying9 (by kernel_rfl)), (List.forall_mem_cons.2 ⟨(opensB_text Try.underlying9 (by kernel_rfl)), (List.forall_mem_cons.2 ⟨(opensB_text Try.underlying9 (by kernel_rfl)), (List.forall_mem_cons.2 ⟨(opensB_list Try.underlying23 (by kernel_rfl) opnB_Column (by decide)), (List.forall_mem_cons.2 ⟨(opensB_list Try.underlying168 (by kernel_rfl) opnB_Rule (by decide)), (by simp)⟩)⟩)⟩)⟩)⟩) (by kernel_rfl) (by kernel_rfl)
set_option maxRecDepth 100000 in
set_option maxHeartbeats 2000000 in
theorem opnB_Schema : OpensB Try.prog 164 shSchema :=
  opensB_struct [(9, .text), (9, .text)] Try.underlying164 (by simp) (by kernel_rfl) (List.forall_mem_cons.2 ⟨(opensB_text Try.underlying9 (by kernel_rfl)), (List.forall_mem_cons.2 ⟨(opensB_text Try.underlying9 (by kernel_rfl)), (by simp)⟩)⟩) (by kernel_rfl) (by kernel_rfl)
set_option maxRecDepth 100000 in
set_option maxHeartbeats 2000000 in
theorem opnB_Member : OpensB Try.prog 159 shMember :=
  opensB_struct [(9, .text), (9, .text)] Try.underlying159 (by simp) (by kernel_rfl) (List.forall_mem_cons.2 ⟨(opensB_text Try.underlying9 (by kernel_rfl)), (List.forall_mem_cons.2 ⟨(opensB_text Try.underlying9 (by kernel_rfl)), (by simp)⟩)⟩) (by kernel_rfl) (by kernel_rfl)
set_option maxRecDepth 100000 in
set_option maxHeartbeats 2000000 in
theorem opnB_Grant : OpensB Try.prog 161 shGrant :=
  opensB_struct [(9, .text), (9, .text), (28, .num), (9, .text), (9, .text), (4, .flag)] Try.underlying161 (by simp) (by kernel_rfl) (List.forall_mem_cons.2 ⟨(opensB_text Try.underlying9 (by kernel_rfl)), (List.forall_mem_cons.2 ⟨(opensB_text Try.underlying9 (by kernel_rfl)), (List.forall_mem_cons.2 ⟨(opensB_int true Try.underlying28 (by kernel_rfl)), (List.forall_mem_cons.2 ⟨(opensB_text Try.underlying9 (by kernel_rfl)), (List.forall_mem_cons.2 ⟨(opensB_text Try.underlying9 (by kernel_rfl)), (List.forall_mem_cons.2 ⟨(opensB_flag Try.underlying4 (by kernel_rfl)), (by simp)⟩)⟩)⟩)⟩)⟩)⟩) (by kernel_rfl) (by kernel_rfl)
set_option maxRecDepth 100000 in
set_option maxHeartbeats 2000000 in
theorem opnB_Lease : OpensB Try.prog 190 shLease :=
  opensB_struct [(3, .num), (3, .num), (3, .num), (3, .num)] Try.underlying190 (by simp) (by kernel_rfl) (List.forall_mem_cons.2 ⟨(opensB_int true Try.underlying3 (by kernel_rfl)), (List.forall_mem_cons.2 ⟨(opensB_int true Try.underlying3 (by kernel_rfl)), (List.forall_mem_cons.2 ⟨(opensB_int true Try.underlying3 (by kernel_rfl)), (List.forall_mem_cons.2 ⟨(opensB_int true Try.underlying3 (by kernel_rfl)), (by simp)⟩)⟩)⟩)⟩) (by kernel_rfl) (by kernel_rfl)
set_option maxRecDepth 100000 in
set_option maxHeartbeats 2000000 in
theorem opnB_Done : OpensB Try.prog 188 shDone :=
  opensB_struct [(3, .num), (3, .num), (32, .num), (3, .num), (3, .num)] Try.underlying188 (by simp) (by kernel_rfl) (List.forall_mem_cons.2 ⟨(opensB_int true Try.underlying3 (by kernel_rfl)), (List.forall_mem_cons.2 ⟨(opensB_int true Try.underlying3 (by kernel_rfl)), (List.forall_mem_cons.2 ⟨(opensB_int true Try.underlying32 (by kernel_rfl)), (List.forall_mem_cons.2 ⟨(opensB_int true Try.underlying3 (by kernel_rfl)), (List.forall_mem_cons.2 ⟨(opensB_int true Try.underlying3 (by kernel_rfl)), (by simp)⟩)⟩)⟩)⟩)⟩) (by kernel_rfl) (by kernel_rfl)
set_option maxRecDepth 100000 in
set_option maxHeartbeats 2000000 in
theorem opnB_Objects : OpensB Try.prog 45 (.two (.list shSchema) (.list shTable)) :=
  opensB_struct [(42, (.list shSchema)), (43, (.list shTable))] Try.underlying45 (by simp) (by kernel_rfl) (List.forall_mem_cons.2 ⟨(opensB_list Try.underlying42 (by kernel_rfl) opnB_Schema (by decide)), (List.forall_mem_cons.2 ⟨(opensB_list Try.underlying43 (by kernel_rfl) opnB_Table (by decide)), (by simp)⟩)⟩) (by kernel_rfl) (by kernel_rfl)
set_option maxRecDepth 100000 in
set_option maxHeartbeats 2000000 in
theorem opnB_Roles : OpensB Try.prog 48 (.two (.list .text) (.list shMember)) :=
  opensB_struct [(25, (.list .text)), (46, (.list shMember))] Try.underlying48 (by simp) (by kernel_rfl) (List.forall_mem_cons.2 ⟨(opensB_list Try.underlying25 (by kernel_rfl) (opensB_text Try.underlying9 (by kernel_rfl)) (by decide)), (List.forall_mem_cons.2 ⟨(opensB_list Try.underlying46 (by kernel_rfl) opnB_Member (by decide)), (by simp)⟩)⟩) (by kernel_rfl) (by kernel_rfl)
set_option maxRecDepth 100000 in
set_option maxHeartbeats 2000000 in
theorem opnB_Catalog0 : OpensB Try.prog 51 (.two .num (.two .num (.two (.two (.list shSchema) (.list shTable)) (.two (.two (.list .text) (.list shMember)) (.list shGrant))))) :=
  opensB_struct [(3, .num), (3, .num), (45, (.two (.list shSchema) (.list shTable))), (48, (.two (.list .text) (.list shMember))), (49, (.list shGrant))] Try.underlying51 (by simp) (by kernel_rfl) (List.forall_mem_cons.2 ⟨(opensB_int true Try.underlying3 (by kernel_rfl)), (List.forall_mem_cons.2 ⟨(opensB_int true Try.underlying3 (by kernel_rfl)), (List.forall_mem_cons.2 ⟨opnB_Objects, (List.forall_mem_cons.2 ⟨opnB_Roles, (List.forall_mem_cons.2 ⟨(opensB_list Try.underlying49 (by kernel_rfl) opnB_Grant (by decide)), (by simp)⟩)⟩)⟩)⟩)⟩) (by kernel_rfl) (by kernel_rfl)
theorem opnB_Catalog : OpensB Try.prog 51 shCatalog :=
  opnB_Catalog0.turn (by decide) fun h => h.right fun h => h.right fun h => h.assoc.right fun h => h.right fun h => h.assoc
set_option maxRecDepth 100000 in
set_option maxHeartbeats 2000000 in
theorem opnB_Machine : OpensB Try.prog 80 shMachine :=
  opensB_struct [(51, shCatalog), (77, (.list shDone)), (78, (.list shLease)), (3, .num)] Try.underlying80 (by simp) (by kernel_rfl) (List.forall_mem_cons.2 ⟨opnB_Catalog, (List.forall_mem_cons.2 ⟨(opensB_list Try.underlying77 (by kernel_rfl) opnB_Done (by decide)), (List.forall_mem_cons.2 ⟨(opensB_list Try.underlying78 (by kernel_rfl) opnB_Lease (by decide)), (List.forall_mem_cons.2 ⟨(opensB_int true Try.underlying3 (by kernel_rfl)), (by simp)⟩)⟩)⟩)⟩) (by kernel_rfl) (by kernel_rfl)
end Go.Proofs.Ytbhpbiimfcdgaaa
