/-
  The document's clock, by contract: without, before, Set, Clear, Next, Due.
-/
import Derived.Test.YtpepmjkkckgkkaaAlarmM
import Derived.Test.YtpepmjkkckgkkaaWireW
import Derived.Test.YtpepmjkkckgkkaaCellNew
import Derived.Test.YtpepmjkkckgkkaaProg
import Derived.IntWalk
import Derived.BigQuiet
import Derived.Deep.QuietTactic
import Derived.Deep.MidRow
import Derived.Maps.AppendAt
import Derived.Deep.Onto
import Derived.Deep.AppendLies
import Derived.Laws.OwnMore
namespace Go.Proofs.Ytpepmjkkckgkkaa
open Go.RowKit

def itv (e : Due) : List Value := [.int .i64 e.2, .int .i64 e.1]
def its (S : List Due) : List Value := (S.map itv).flatten
theorem its_snoc (S : List Due) (e : Due) : its (S ++ [e]) = its S ++ itv e := by simp [its]
theorem its_nil : its [] = [] := rfl
theorem length_its (S : List Due) : (its S).length = S.length * 2 := by
  induction S with
  | nil => rfl
  | cons b t ih => simp only [its, List.map_cons, List.flatten_cons, List.length_append] at *; rw [ih]; simp [itv]; omega

/-- The document's clock lies in block b; what it holds is S, in blocks of which G holds. -/
def Rf (w : World) (b : Nat) (G : Nat → Prop) (S : List Due) : Prop :=
  ∃ a c, w.cell? ⟨b, 0, none⟩ = some (.slice a S.length c) ∧ w.frozen? ⟨b, 0, none⟩ = false ∧ RdT w G a 2 (S.map itv) ∧ ¬ G b ∧ S.length ≤ c ∧ c ≤ maxLen

theorem rdT_at {w : World} {G : Nat → Prop} {a : Option Addr} {S : List Due} (h : RdT w G a 2 (S.map itv)) (hS : 0 < S.length) : ∃ b o, a = some ⟨b, o, none⟩ ∧ G b ∧ b < w.heap.size ∧ ∀ k (hk : k < S.length), w.rangeAt b (o + k * 2) (itv S[k]) := by
  rcases h with h | ⟨b, o, ha, hg, hc⟩
  · have := congrArg List.length h
    rw [List.length_map] at this
    rw [this] at hS
    exact absurd hS (Nat.lt_irrefl 0)
  · have hr : ∀ k (hk : k < S.length), w.rangeAt b (o + k * 2) (itv S[k]) := by
      intro k hk j v hv
      exact hc k _ (by rw [List.getElem?_map, List.getElem?_eq_getElem hk]; rfl) j v hv
    refine ⟨b, o, ha, hg, ?_, hr⟩
    exact World.block_lt_of_cell? w _ (hr 0 hS 0 _ rfl)
theorem its_get : ∀ (S : List Due) (i : Nat) (h : i < S.length) (j : Nat), j < 2 → (its S)[i * 2 + j]? = (itv S[i])[j]?
  | [], i, h, _, _ => by simp at h
  | b :: t, 0, _, j, hj => by
    have : its (b :: t) = itv b ++ its t := by simp [its]
    rw [this, List.getElem?_append_left (by simp [itv]; omega)]
    simp
  | b :: t, i + 1, h, j, hj => by
    have : its (b :: t) = itv b ++ its t := by simp [its]
    rw [this, List.getElem?_append_right (by simp [itv]; omega)]
    have e : (i + 1) * 2 + j - (itv b).length = i * 2 + j := by simp [itv]; omega
    rw [e, its_get t i (by simpa using h) j hj]
    simp
theorem rdT_own {w : World} {base : Nat} {e : TypeId} {v : Value} {n : Nat} {S : List Due} (h : w.ownsRow base e 2 v n (its S)) : ∃ a c, v = .slice a n c ∧ S.length = n ∧ RdT w (fun k => base ≤ k ∧ k < w.heap.size) a 2 (S.map itv) ∧ n ≤ c ∧ c ≤ maxLen := by
  have hn : S.length = n := by have := h.1; rw [length_its] at this; omega
  by_cases h0 : n = 0
  · have hS : S = [] := List.eq_nil_of_length_eq_zero (by omega)
    rcases h.2 with ⟨rfl, rfl⟩ | ⟨g, cap, cur, rfl, _, _, hc1, hc2, _⟩
    · exact ⟨none, 0, rfl, hn, .inl (by rw [hS]; rfl), Nat.le_refl _, Nat.zero_le _⟩
    · exact ⟨_, cap, rfl, hn, .inl (by rw [hS]; rfl), hc1, hc2⟩
  · obtain ⟨g, cap, rfl, hb, hg⟩ := h.form (by omega)
    have hcc : n ≤ cap ∧ cap ≤ maxLen := by
      rcases h.2 with ⟨h', _⟩ | ⟨g', cap', cur, h', _, _, hc1, hc2, _⟩
      · simp at h'
      · simp only [Value.slice.injEq] at h'
        obtain ⟨_, _, rfl⟩ := h'
        exact ⟨hc1, hc2⟩
    refine ⟨_, cap, rfl, hn, .inr ⟨g, 0, rfl, ⟨hb, hg⟩, fun i x hx j v hv => ?_⟩, hcc⟩
    rw [List.getElem?_map] at hx
    cases hi : S[i]? with
    | none => rw [hi] at hx; cases hx
    | some y =>
      rw [hi] at hx
      obtain ⟨hil, hy⟩ := List.getElem?_eq_some_iff.1 hi
      have hxe : itv y = x := by simpa using hx
      have hj : j < 2 := by
        obtain ⟨hj, _⟩ := List.getElem?_eq_some_iff.1 hv
        rw [← hxe] at hj
        simpa [itv] using hj
      rw [Nat.zero_add, h.cellAt (i * 2 + j) (by omega), its_get S i hil j hj, hy, hxe]
      exact hv
theorem cells_two (w : World) (u v : Value) (t : TypeId) : ∀ j x, [u, v][j]? = some x → (w.alloc (.cells #[u, v] t)).cell? ((⟨w.heap.size, 0, none⟩ : Addr).add j) = some x := by
  intro j x h
  obtain ⟨hj, rfl⟩ := List.getElem?_eq_some_iff.1 h
  have : j = 0 ∨ j = 1 := by simp at hj; omega
  rcases this with rfl | rfl
  · simp [Addr.add, cell_of_row _ _ _ _ _ _ (heap_alloc_new w (.cells #[u, v] t))]
  · simp [Addr.add, cell_of_row _ _ _ _ _ _ (heap_alloc_new w (.cells #[u, v] t))]

theorem rf_stored {w : World} {b : Nat} {G : Nat → Prop} {S : List Due} {v : Value} {a : Option Addr} {c : Nat} (hc : w.cell? ⟨b, 0, none⟩ = some v) (hf : w.frozen? ⟨b, 0, none⟩ = false) (hr : RdT w G a 2 (S.map itv)) (hG : ¬ G b) (hl : S.length ≤ c ∧ c ≤ maxLen) :
    Rf (w.setCell ⟨b, 0, none⟩ (.slice a S.length c)) b G S := by
  refine ⟨a, c, ?_, ?_, ?_, hG, hl⟩
  · exact World.cell?_setCell_same _ _ _ hc
  · rw [World.frozen?_setCell]; exact hf
  · exact hr.keep (fun _ h => h) (Keeps.refl.setCell hG _)
theorem own_belowA {w w' : World} {base : Nat} {e : TypeId} {size : Nat} {v : Value} {n : Nat} {xs : List Value} (h : w.ownsRow base e size v n xs) (hb : Below w.heap.size w w') : w'.ownsRow base e size v n xs := by
  rcases h with ⟨hl, h | ⟨g, cap, cur, h1, h2, h3, h4⟩⟩
  · exact ⟨hl, .inl h⟩
  · have hg : g < w.heap.size := by
      rcases Nat.lt_or_ge g w.heap.size with hlt | hge
      · exact hlt
      · rw [Array.getElem?_eq_none hge] at h3; cases h3
    exact ⟨hl, .inr ⟨g, cap, cur, h1, h2, (hb.block g hg).trans h3, h4⟩⟩

theorem itemInfo : (Try.prog.info? 60).map (fun i => (i.zero, i.size, i.bytes)) = some (some (.agg #[.int .i64 0, .int .i64 0]), 2, 16) := by kernel_rfl

set_option maxHeartbeats 1000000 in
theorem without_any (b : Nat) (G : Nat → Prop) (S : List Due) (id : Int) (w : World) (h : Rf w b G S) (hn : S.length ≤ 100000) :
    Calls Try.prog 21 #[.pointer (some ⟨b, 0, none⟩), .int .i64 id] w fun e w' => e = .returned (.bool (hasD id S)) ∧ Rf w' b (fun k => w.heap.size ≤ k ∧ k < w'.heap.size) (offD id S) ∧ Keeps (· ≠ b) w w' := by
  obtain ⟨i0, hi, hz0, hz1, hz2⟩ := info_parts itemInfo
  obtain ⟨a, c, hcell, hfz, hrd, hGb, _⟩ := h
  have hbl : b < w.heap.size := World.block_lt_of_cell? w _ hcell
  obtain ⟨n, hl⟩ : ∃ n, S.length = n := ⟨_, rfl⟩
  rw [hl] at hcell
  have HL := Lib.hid hl
  rw [hl] at hn
  clear hl
  go_enter Try.func21, Try.ntmps21
  go_wp2_with fail
  go_loopw [5, 6] (fun o i wr => ∃ (k : Nat) (o' : Value), o' = o ∧ k ≤ n ∧ i = .int .i64 k ∧ wr.ownsRow w.heap.size 60 2 o' (offD id (S.take k)).length (its (offD id (S.take k))) ∧ Below w.heap.size w wr) (fun _ i _ => n - (intOf i).toNat)
  case atStart => exact ⟨0, _, rfl, Nat.zero_le _, rfl, World.ownsRow_nil _ _ _ _, Below.refl _ _⟩
  case round =>
    obtain ⟨k, o', rfl, hk, rfl, hown, hb⟩ := hrel
    have hcw := (hb.cell (p := ⟨b, 0, none⟩) hbl).trans hcell
    by_cases hlt : k < n
    · obtain ⟨b1, o1, rfl, hg1, hb1, hrng⟩ := rdT_at hrd (by rw [HL.out]; omega)
      have lk : k < S.length := by rw [HL.out]; exact hlt
      have hrk := hrng k lk
      have c0 := (hb.cell (p := ⟨b1, o1 + k * 2, none⟩) hb1).trans (hrk 0 _ rfl)
      have c1 := (hb.cell (p := ⟨b1, o1 + k * 2 + 1, none⟩) hb1).trans (hrk 1 _ rfl)
      have hin := fun h => offD_take_in (id := id) lk h
      have hout := fun h => offD_take_out (id := id) lk h
      have hpl := length_offD_take id S k
      have k0 : (0 : Int) ≤ (k : Int) := by omega
      have k1 : (k : Int) < (n : Int) := by omega
      clear hrng hrk
      generalize S[k] = x at *
      obtain ⟨t, y⟩ := x
      simp only at c0 c1 hin hout
      by_cases hxv : y = id
      · subst hxv
        have HOUT := Lib.hid (hout rfl)
        clear hin hout
        go_wp2
        go_roundw
        case rel => exact ⟨k + 1, _, rfl, by omega, by go_num, by rw [HOUT.out]; exact hown, hb⟩
        case measure => simp [intOf]; omega
      · have HIN := Lib.hid (hin hxv)
        have hb1 : (y != id) = true := by simpa using hxv
        clear hin hout
        go_wp2_with (at_builtin; refine wpList_append_own _ rfl _ _ 26 rfl w.heap.size 60 i0 _ 2 16 Try.underlying26 hi hz0 hz1 hz2 rfl (by decide) _ _ _ rfl (hown.alloc _) ⟨_, 0, none⟩ 1 1 [.int .i64 y, .int .i64 t] rfl rfl ?c1 ?c2 ?c3 ?c4 ?c5 ?_)
        case c1 => exact cells_two _ _ _ _
        case c2 => intro u hu; simp at hu; rcases hu with rfl | rfl <;> rfl
        case c3 => unfold maxLen; omega
        case c4 => omega
        case c5 => have := hb.size; simp; omega
        intro o3 w3 hown3 hgrow _
        have hb3 := (hb.alloc hb.size (.cells #[.int .i64 y, .int .i64 t] 60)).grown hgrow (by have := hb.size; simp; omega) (fun j hj => (hown.lt j hj).1)
        have hown4 : w3.ownsRow w.heap.size 60 2 o3 (offD id (S.take (k + 1))).length (its (offD id (S.take (k + 1)))) := by
          rw [HIN.out, its_snoc, List.length_append]; exact hown3
        clear hown3
        go_wp2
        go_roundw
        case rel => exact ⟨k + 1, _, rfl, by omega, by go_num, hown4, hb3⟩
        case measure => simp [intOf]; omega
    · have hpe : S.take k = S := List.take_of_length_le (by rw [HL.out]; omega)
      rw [hpe] at hown
      clear hpe
      obtain ⟨a2, c2, rfl, hl2, hrd2, hc2⟩ := rdT_own hown
      have hlen := length_offD_le id S
      have hlt2 := length_offD_lt (id := id) (S := S)
      rw [HL.out] at hlt2 hlen
      have hfw : wr.frozen? ⟨b, 0, none⟩ = false := by rw [← hfz]; exact World.frozen?_of_block (hb.block b hbl)
      go_wp2_with fail
      go_ret
      have hkw : Keeps (· ≠ b) w wr := ⟨hb.os, hb.tape, hb.output, hb.size, fun k hk _ => hb.block k hk⟩
      exact ⟨rfl, rf_stored hcw hfw (hrd2.keep (fun k hk => ⟨hk.1, by simpa [World.setCell] using hk.2⟩) Keeps.refl) (by omega) hc2, hkw.setCell (by simp) _⟩

end Go.Proofs.Ytpepmjkkckgkkaa
