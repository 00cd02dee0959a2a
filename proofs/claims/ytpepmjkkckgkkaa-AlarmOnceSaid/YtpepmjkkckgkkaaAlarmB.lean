/-
  The document's clock, by contract: before, Set, Clear, Next.
-/
import Derived.Test.YtpepmjkkckgkkaaAlarmA
namespace Go.Proofs.Ytpepmjkkckgkkaa
open Go.RowKit

def agD (e : Due) : Value := .agg #[.int .i64 e.2, .int .i64 e.1]
set_option maxHeartbeats 1000000 in
theorem before_any (x y : Due) (w : World) : Calls Try.prog 22 #[.agg #[.int .i64 x.2, .int .i64 x.1], .agg #[.int .i64 y.2, .int .i64 y.1]] w fun e w' => e = .returned (.bool (decide (¬ lq y x))) ∧ w' = (w.alloc (.cells #[.int .i64 x.2, .int .i64 x.1] 60)).alloc (.cells #[.int .i64 y.2, .int .i64 y.1] 60) := by
  obtain ⟨xt, xi⟩ := x
  obtain ⟨yt, yi⟩ := y
  by_cases h1 : xt < yt
  · have hd : decide (¬ lq (yt, yi) (xt, xi)) = true := by unfold lq; simp; omega
    rw [hd]
    go_enter Try.func22, Try.ntmps22
    go_wp2_with fail
    go_ret
    exact ⟨rfl, rfl⟩
  by_cases h2 : xt = yt
  · subst h2
    by_cases h3 : xi < yi
    · have hd : decide (¬ lq (xt, yi) (xt, xi)) = true := by unfold lq; simp; omega
      rw [hd]
      go_enter Try.func22, Try.ntmps22
      go_wp2_with fail
      go_ret
      exact ⟨rfl, rfl⟩
    · have hd : decide (¬ lq (xt, yi) (xt, xi)) = false := by unfold lq; simp; omega
      rw [hd]
      go_enter Try.func22, Try.ntmps22
      go_wp2_with fail
      go_ret
      exact ⟨rfl, rfl⟩
  · have hd : decide (¬ lq (yt, yi) (xt, xi)) = false := by unfold lq; simp; omega
    rw [hd]
    go_enter Try.func22, Try.ntmps22
    go_wp2_with fail
    go_ret
    exact ⟨rfl, rfl⟩

theorem before_below (x y : Due) (w : World) : Calls Try.prog 22 #[.agg #[.int .i64 x.2, .int .i64 x.1], .agg #[.int .i64 y.2, .int .i64 y.1]] w fun e w' => e = .returned (.bool (decide (¬ lq y x))) ∧ Below w.heap.size w w' := by
  refine (before_any x y w).mono ?_
  rintro e w' ⟨rfl, rfl⟩
  exact ⟨rfl, ((Below.refl w.heap.size w).alloc (Nat.le_refl _) _).alloc (by simp) _⟩

set_option maxHeartbeats 1000000 in
theorem ref_clear_any (b : Nat) (G : Nat → Prop) (S : List Due) (id : Int) (w : World) (h : Rf w b G S) (hn : S.length ≤ 100000) :
    Calls Try.prog 11 #[.pointer (some ⟨b, 0, none⟩), .int .i64 id] w fun e w' => e = .returned (.int .i64 (if hasD id S then 0 else 50)) ∧ Rf w' b (fun k => w.heap.size ≤ k ∧ k < w'.heap.size) (offD id S) ∧ Keeps (· ≠ b) w w' := by
  cases hh : hasD id S with
  | false =>
    have HH := Lib.hid hh; clear hh
    go_enter Try.func11, Try.ntmps11
    go_wp2_with fail
    refine (without_any b G S id w h hn).mono ?_
    rintro e w1 ⟨rfl, hr, hk⟩
    rw [HH.out]
    go_wp2_with fail
    go_ret
    exact ⟨rfl, hr, hk⟩
  | true =>
    have HH := Lib.hid hh; clear hh
    go_enter Try.func11, Try.ntmps11
    go_wp2_with fail
    refine (without_any b G S id w h hn).mono ?_
    rintro e w1 ⟨rfl, hr, hk⟩
    rw [HH.out]
    go_wp2_with fail
    go_ret
    exact ⟨rfl, hr, hk⟩

def nextV : List Due → Array Value
  | [] => #[.int .i64 0, .int .i64 0, .int .i64 50]
  | x :: _ => #[.int .i64 x.2, .int .i64 x.1, .int .i64 0]
set_option maxHeartbeats 1000000 in
theorem ref_next_any (b : Nat) (G : Nat → Prop) (S : List Due) (w : World) (h : Rf w b G S) :
    Calls Try.prog 16 #[.pointer (some ⟨b, 0, none⟩)] w fun e w' => e = .returned (.tuple (nextV S)) ∧ Below w.heap.size w w' := by
  obtain ⟨a, c, hcell, hfz, hrd, hGb, _⟩ := h
  cases S with
  | nil =>
    rw [List.length_nil] at hcell
    go_enter Try.func16, Try.ntmps16
    go_wp2_with fail
    go_ret3
    exact ⟨rfl, Below.refl _ _⟩
  | cons x t =>
    obtain ⟨b1, o1, rfl, hg1, hb1, hrng⟩ := rdT_at hrd (by simp)
    have hrk := hrng 0 (by simp)
    have c0 : w.cell? ⟨b1, o1, none⟩ = some (.int .i64 x.2) := by simpa using hrk 0 _ rfl
    have c1 : w.cell? ⟨b1, o1 + 1, none⟩ = some (.int .i64 x.1) := by simpa using hrk 1 _ rfl
    have hpos : 0 < (x :: t).length := by simp
    clear hrng hrk
    clear hrd
    generalize (x :: t).length = n at hcell hpos
    have z0 : (0 : Int) < (n : Int) := by omega
    go_enter Try.func16, Try.ntmps16
    go_wp2_with fail
    go_quiet (fail)
    go_wp2_with fail
    go_ret3
    exact ⟨rfl, (Below.refl _ _).trans ⟨rfl, rfl, rfl, Nat.le_refl _, fun _ _ => rfl⟩⟩
end Go.Proofs.Ytpepmjkkckgkkaa
