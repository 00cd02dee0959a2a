/-
  Layer 6's statement on any calls: the calls that come in, as they read.
-/
import Derived.Test.YtpepmjkkckgkkaaLaw06e
import Derived.Test.YtpepmjkkckgkkaaOpen
namespace Go.Proofs.Ytpepmjkkckgkkaa
open Go.RowKit

def shCall : Sh := chainSh [.num, .num, .num]
theorem opn_Call : Opens Try.prog 30 shCall :=
  opens_struct [(3, .num), (3, .num), (3, .num)] Try.underlying30 (by simp) (by kernel_rfl)
    (List.forall_mem_cons.2 ⟨opens_int true Try.underlying3 (by kernel_rfl), List.forall_mem_cons.2 ⟨opens_int true Try.underlying3 (by kernel_rfl), List.forall_mem_cons.2 ⟨opens_int true Try.underlying3 (by kernel_rfl), fun _ h => by cases h⟩⟩⟩) (by kernel_rfl) (by decide)
theorem opn_Calls : Opens Try.prog 22 (.list shCall) := opens_list Try.underlying22 (by kernel_rfl) opn_Call (by decide)
theorem is_call {w : World} {S : Nat → Prop} {cs : List Value} {ts : List Tok} (h : Is w S shCall cs ts) : ∃ z, cs = opv z ∧ I64 z.2.1 := by
  obtain ⟨ca, cb, ta, tb, rfl, rfl, ⟨x, _, _, rfl, rfl⟩, cc, cd, tc, td, rfl, rfl, ⟨y, y1, y2, rfl, rfl⟩, ⟨z, _, _, rfl, rfl⟩⟩ := h
  exact ⟨(x, y, z), rfl, i64_of y1 y2⟩
theorem list_of {α : Type} {p : α → List Value} {q : α → Prop} : ∀ {xss : List (List Value)}, (∀ x ∈ xss, ∃ z, x = p z ∧ q z) → ∃ zs : List α, xss = zs.map p ∧ ∀ z ∈ zs, q z
  | [], _ => ⟨[], rfl, fun _ h => by cases h⟩
  | x :: r, h => by
    obtain ⟨z, hz, hq⟩ := h x (by simp)
    obtain ⟨zs, hzs, hqs⟩ := list_of (p := p) (q := q) (xss := r) fun y hy => h y (by simp [hy])
    exact ⟨z :: zs, by rw [hz, hzs]; rfl, fun y hy => by rcases List.mem_cons.1 hy with rfl | hy; exact hq; exact hqs y hy⟩
theorem is_calls {w : World} {S : Nat → Prop} {a : Option Addr} {n cap : Nat} (h : ∃ ts, Is w S (.list shCall) [.slice a n cap] ts) (hn : n ≤ 4096) : ∃ zs : List (Int × Int × Int), zs.length = n ∧ (∀ z ∈ zs, I64 z.2.1) ∧ RdT w S a 3 (zs.map opv) := by
  obtain ⟨ts, a', n', cap', xss, he, _, _, hl, hr, hx⟩ := h
  simp only [List.cons.injEq, Value.slice.injEq, and_true] at he
  obtain ⟨rfl, rfl, rfl⟩ := he
  rcases hx with ⟨h4, _⟩ | ⟨tss, _, ht, _, hi⟩
  · omega
  · obtain ⟨zs, rfl, hq⟩ := list_of (p := opv) (q := fun z => I64 z.2.1) (xss := xss) fun x hx => by
      obtain ⟨i, hil, rfl⟩ := List.mem_iff_getElem.1 hx
      exact is_call (hi i _ _ (List.getElem?_eq_getElem hil) (List.getElem?_eq_getElem (by omega)))
    exact ⟨zs, by simpa using hl, hq, hr⟩
theorem walk_calls {K : World → (Nat → Prop) → Addr → List Due → Prop} (Tk : Ticks K) (a : Option Addr) (n cap : Nat) (w : World) (hr : ∃ ts, Is w (· < w.heap.size) (.list shCall) [.slice a n cap] ts) :
    Calls Try.prog 3 #[.slice a n cap] w fun e w' => e = .returned (.bool true) ∧ Below w.heap.size w w' := by
  by_cases hlong : 400 < n
  · clear hr Tk
    go_enter Try.func3, Try.ntmps3
    go_wp2_with fail
    go_ret
    exact ⟨rfl, Below.refl _ _⟩
  · obtain ⟨zs, hl, hq, hz⟩ := is_calls hr (by omega)
    exact walk_runs Tk a n cap zs w hq hl hz
end Go.Proofs.Ytpepmjkkckgkkaa
