/-
  Layer 7's law: ObjectsNames.
-/
import Derived.Test.YtkghkioghkapcaaObpA
namespace Go.Proofs.Ytkghkioghkapcaa
open Go.RowKit Go.Sort

set_option maxRecDepth 100000 in
theorem walk_names (s : ByteArray) (w : World) : Calls Try.prog 3 #[.string s] w fun e w' => e = .returned (.bool true) ∧ Below w.heap.size w w' := by
  have h1 := prog_name_any ⟨#[97, 95, 49]⟩ w
  rw [show nameB ⟨#[97, 95, 49]⟩ = true by decide +kernel] at h1
  have h2 := prog_name_any ⟨#[49, 97]⟩ w
  rw [show nameB ⟨#[49, 97]⟩ = false by decide +kernel] at h2
  have h3 := prog_name_any s w
  have h4 := ref_name_any s w
  have HB := Lib.hid (Below.refl w.heap.size w)
  generalize nameB s = b at h3 h4
  have H1 := Lib.hid h1; have H2 := Lib.hid h2; have H3 := Lib.hid h3; have H4 := Lib.hid h4
  clear h1 h2 h3 h4
  cases b
  all_goals
    go_enter Try.func3, Try.ntmps3
    go_wp2_with fail
    refine H1.out.mono ?_
    rintro e w' ⟨rfl, rfl⟩
    go_wp2_with fail
    refine H2.out.mono ?_
    rintro e w' ⟨rfl, rfl⟩
    go_wp2_with fail
    refine H3.out.mono ?_
    rintro e w' ⟨rfl, rfl⟩
    go_wp2_with fail
    refine H4.out.mono ?_
    rintro e w' ⟨rfl, rfl⟩
    go_wp2_with fail
    go_ret
    exact ⟨rfl, HB.out⟩
end Go.Proofs.Ytkghkioghkapcaa
