/-
  Layer 6's statement on what is cleared, walked, over any two clocks.
-/
import Derived.Test.YtpepmjkkckgkkaaAlarmT
import Derived.Test.YtpepmjkkckgkkaaAlarmO
namespace Go.Proofs.Ytpepmjkkckgkkaa
open Go.RowKit

theorem offD_insD (id t : Int) : ∀ S : List Due, offD id (insD (t, id) S) = offD id S
  | [] => by simp [insD, offD]
  | b :: r => by
    unfold insD
    split
    · have ih := offD_insD id t r
      unfold offD at *
      rw [List.filter_cons, List.filter_cons, ih]
    · unfold offD
      rw [List.filter_cons]
      simp
theorem offD_offD (id : Int) (S : List Due) : offD id (offD id S) = offD id S := by unfold offD; rw [List.filter_filter]; congr 1; funext e; simp
theorem offD_setD (id t : Int) (S : List Due) : offD id (setD id t S) = offD id S := by unfold setD; rw [offD_insD, offD_offD]
theorem setD_setD (id t u : Int) (S : List Due) : setD id u (setD id t S) = setD id u S := by
  have h := offD_setD id t S
  unfold setD at *
  rw [h]
theorem hasD_setD (id t : Int) (S : List Due) : hasD id (setD id t S) = true := by
  unfold hasD setD
  rw [List.any_eq_true]
  exact ⟨(t, id), (insD_perm _ _).mem_iff.2 (by simp), by simp⟩
theorem hasD_drop (id : Int) (S : List Due) (k : Nat) : hasD id ((offD id S).drop k) = false := by
  unfold hasD
  rw [List.any_eq_false]
  intro e he
  have := not_mem_offD (id := id) (S := S) e (List.mem_of_mem_drop he)
  simpa using this

section
variable {K : World → (Nat → Prop) → Addr → List Due → Prop}
/-- Two clocks beside each other, behind the world w0. -/
def Two (K : World → (Nat → Prop) → Addr → List Due → Prop) (w0 w : World) (p q : Addr) (S T : List Due) : Prop :=
  ∃ F G, K w F p S ∧ K w G q T ∧ (∀ k, F k → ¬ G k) ∧ (∀ k, F k → w0.heap.size ≤ k) ∧ (∀ k, G k → w0.heap.size ≤ k) ∧ Below w0.heap.size w0 w
theorem Two.swap {w0 w : World} {p q : Addr} {S T : List Due} (h : Two K w0 w p q S T) : Two K w0 w q p T S := by
  obtain ⟨F, G, h1, h2, h3, h4, h5, h6⟩ := h
  exact ⟨G, F, h2, h1, fun k hg hf => h3 k hf hg, h5, h4, h6⟩
theorem Two.below {w0 w : World} {p q : Addr} {S T : List Due} (h : Two K w0 w p q S T) : Below w0.heap.size w0 w := by
  obtain ⟨F, G, h1, h2, h3, h4, h5, h6⟩ := h
  exact h6
theorem Two.on (Tk : Ticks K) {w0 w w' : World} {p q : Addr} {S T : List Due} (h : Two K w0 w p q S T) (hb : Below w.heap.size w w') : Two K w0 w' p q S T := by
  obtain ⟨F, G, h1, h2, h3, h4, h5, h6⟩ := h
  exact ⟨F, G, Tk.keep h1 (Keeps.of_below hb (Tk.lt h1)), Tk.keep h2 (Keeps.of_below hb (Tk.lt h2)), h3, h4, h5, h6.trans (hb.mono h6.size)⟩
theorem Two.moved (Tk : Ticks K) {w0 w w' : World} {p q : Addr} {S' T : List Due} {F F' G : Nat → Prop} (h2 : K w G q T) (h3 : ∀ k, F k → ¬ G k) (h4 : ∀ k, F k → w0.heap.size ≤ k) (h5 : ∀ k, G k → w0.heap.size ≤ k) (h6 : Below w0.heap.size w0 w)
    (k' : K w' F' p S') (m : Moved F F' w w') : Two K w0 w' p q S' T := by
  refine ⟨F', G, k', Tk.keep h2 (m.1.mono fun k hg hf => h3 k hf hg), fun k hf hg => ?_, m.up h4 h6.size, h5, h6.trans (m.below h4 h6.size)⟩
  rcases m.2 k hf with hf | hn
  · exact h3 k hf hg
  · have := Tk.lt h2 k hg
    omega
theorem two_set (Tk : Ticks K) {w0 w : World} {p q : Addr} {S T : List Due} (h : Two K w0 w p q S T) (id t : Int) (hi : I64 id) (hl : S.length ≤ 1000) :
    Calls Try.prog 8 #[.pointer (some p), .int .i64 id, .int .i64 t] w fun e w' => e = .returned (.int .i64 0) ∧ Two K w0 w' p q (setD id t S) T := by
  obtain ⟨F, G, h1, h2, h3, h4, h5, h6⟩ := h
  exact (Tk.set w F p S id t hi h1 hl).mono fun e w' ⟨he, F', k', m⟩ => ⟨he, Two.moved Tk h2 h3 h4 h5 h6 k' m⟩
theorem two_clear (Tk : Ticks K) {w0 w : World} {p q : Addr} {S T : List Due} (h : Two K w0 w p q S T) (id : Int) (hi : I64 id) (hl : S.length ≤ 1000) :
    Calls Try.prog 10 #[.pointer (some p), .int .i64 id] w fun e w' => e = .returned (.int .i64 (if hasD id S then 0 else 50)) ∧ Two K w0 w' p q (offD id S) T := by
  obtain ⟨F, G, h1, h2, h3, h4, h5, h6⟩ := h
  exact (Tk.clear w F p S id hi h1 hl).mono fun e w' ⟨he, F', k', m⟩ => ⟨he, Two.moved Tk h2 h3 h4 h5 h6 k' m⟩
theorem two_len (Tk : Ticks K) {w0 w : World} {p q : Addr} {S T : List Due} (h : Two K w0 w p q S T) (hl : S.length ≤ 1000) :
    Calls Try.prog 17 #[.pointer (some p)] w fun e w' => e = .returned (.int .i64 (S.length : Int)) ∧ Two K w0 w' p q S T := by
  obtain ⟨F, G, h1, h2, h3, h4, h5, h6⟩ := h
  exact (Tk.len w F p S h1 hl).mono fun e w' ⟨he, F', k', m⟩ => ⟨he, Two.moved Tk h2 h3 h4 h5 h6 k' m⟩
/-- What has been told lies apart from both clocks. -/
def Told (K : World → (Nat → Prop) → Addr → List Due → Prop) (w0 w : World) (p q : Addr) (S T : List Due) (o : Value) (xs : List Int) : Prop :=
  ∃ F G B, K w F p S ∧ K w G q T ∧ (∀ k, F k → ¬ G k) ∧ (∀ k, F k → w0.heap.size ≤ k) ∧ (∀ k, G k → w0.heap.size ≤ k) ∧ Below w0.heap.size w0 w ∧ w.ownsRow B 3 1 o xs.length (ci xs) ∧ ∀ g, o.ownBlock = some g → ¬ F g ∧ ¬ G g
theorem two_due (Tk : Ticks K) {w0 w : World} {p q : Addr} {S T : List Due} (h : Two K w0 w p q S T) (now : Int) (hl : S.length ≤ 1000) :
    Calls Try.prog 12 #[.pointer (some p), .int .i64 now] w fun e w' => ∃ o, e = .returned o ∧ Told K w0 w' p q (S.drop (dueN now S)) T o (ids (S.take (dueN now S))) := by
  obtain ⟨F, G, h1, h2, h3, h4, h5, h6⟩ := h
  refine (Tk.due w F p S now h1 hl).mono fun e w' ⟨o, F', he, ho, k', m, hn⟩ => ⟨o, he, F', G, w.heap.size, k', Tk.keep h2 (m.1.mono fun k hg hf => h3 k hf hg), fun k hf hg => ?_, m.up h4 h6.size, h5, h6.trans (m.below h4 h6.size), ?_, fun g hg => ⟨hn g hg, fun hG => ?_⟩⟩
  · rcases m.2 k hf with hf | hnw
    · exact h3 k hf hg
    · have := Tk.lt h2 k hg
      omega
  · have hd : (ids (S.take (dueN now S))).length = dueN now S := by simp [ids, List.length_take, Nat.min_eq_left (dueN_le now S)]
    rw [hd]
    exact ho
  · have h1 := Tk.lt h2 g hG
    have h2 := (ho.lt g hg).1
    omega
/-- A second telling, by the other clock, leaves the first one's row. -/
theorem told_due (Tk : Ticks K) {w0 w : World} {p q : Addr} {S T : List Due} {o : Value} {xs : List Int} (h : Told K w0 w p q S T o xs) (now : Int) (hl : T.length ≤ 1000) :
    Calls Try.prog 12 #[.pointer (some q), .int .i64 now] w fun e w' => ∃ o2, e = .returned o2 ∧ Two K w0 w' p q S (T.drop (dueN now T)) ∧ (∃ B, w'.ownsRow B 3 1 o xs.length (ci xs)) ∧ ∃ B, w'.ownsRow B 3 1 o2 (ids (T.take (dueN now T))).length (ci (ids (T.take (dueN now T)))) := by
  obtain ⟨F, G, B, h1, h2, h3, h4, h5, h6, h7, h8⟩ := h
  refine (Tk.due w G q T now h2 hl).mono fun e w' ⟨o2, G', he, ho, k', m, hn⟩ => ⟨o2, he, Two.swap (Two.moved Tk h1 (fun k hg hf => h3 k hf hg) h5 h4 h6 k' m), ⟨B, own_keeps h7 m.1 fun g hg => (h8 g hg).2⟩, w.heap.size, ?_⟩
  have hd : (ids (T.take (dueN now T))).length = dueN now T := by simp [ids, List.length_take, Nat.min_eq_left (dueN_le now T)]
  rw [hd]
  exact ho
end

set_option maxRecDepth 100000 in
set_option maxHeartbeats 4000000 in
theorem walk_forgets {K : World → (Nat → Prop) → Addr → List Due → Prop} (Tk : Ticks K) (a : Option Addr) (n cap : Nat) (zs : List Int) (id at_ later : Int) (w : World) (hi : I64 id) (hl : zs.length = n) (hr : Rd w w.heap.size a (ci zs)) :
    Calls Try.prog 5 #[.slice a n cap, .int .i64 id, .int .i64 at_, .int .i64 later] w fun e w' => e = .returned (.bool true) ∧ Below w.heap.size w w' := by
  have HT := Lib.hid Tk; clear Tk
  have HL := Lib.hid hl; clear hl
  by_cases hlong : 300 < n
  · go_enter Try.func5, Try.ntmps5
    go_wp2_with fail
    go_ret
    exact ⟨rfl, Below.refl _ _⟩
  go_enter Try.func5, Try.ntmps5
  go_wp2_with fail
  refine (HT.out.new w).mono ?_
  rintro e w1 ⟨p, F1, rfl, k1, b1, f1⟩
  go_wp2_with fail
  refine (HT.out.new w1).mono ?_
  rintro e w2 ⟨q, G1, rfl, k2, b2, f2⟩
  have hS0 : Two K w w2 p q [] [] := ⟨F1, G1, HT.out.keep k1 (Keeps.of_below b2 (HT.out.lt k1)), k2, fun k hf hg => by have := HT.out.lt k1 k hf; have := f2 k hg; omega, f1, fun k hg => Nat.le_trans b1.size (f2 k hg), b1.trans (b2.mono b1.size)⟩
  have HS0 := Lib.hid hS0
  clear k1 b1 f1 k2 b2 f2 hS0
  go_wp2_with fail
  go_loopw [11] (fun i wr => ∃ (k : Nat), k ≤ n ∧ i = .int .i64 k ∧ Hid (Two K w wr p q (laidT zs k) (laidT zs k))) (fun i _ => n - (intOf i).toNat)
  case atStart => exact ⟨0, Nat.zero_le _, rfl, HS0⟩
  case round =>
    obtain ⟨k, hk, rfl, hrel⟩ := hrel
    by_cases hlt : k < n
    · obtain ⟨b, o, rfl, hB1, hc⟩ := hr.pos (by rw [length_ci, HL.out]; omega)
      have lk : k < zs.length := by rw [HL.out]; exact hlt
      have hcw := hc k (by rw [length_ci]; exact lk)
      rw [ci_get] at hcw
      have hck := (hrel.out.below.cell (p := ⟨b, o + k, none⟩) hB1).trans hcw
      clear hc
      have hgd : zs.getD k 0 = zs[k] := by simp [List.getD, List.getElem?_eq_getElem lk]
      have hS : setD (k : Int) zs[k] (laidT zs k) = laidT zs (k + 1) := by rw [← hgd]; rfl
      have HS := Lib.hid hS
      have hlen := length_laidT zs k
      have HLN := Lib.hid hlen
      clear hS hgd hlen
      have k0 : (0 : Int) ≤ (k : Int) := by omega
      have k1' : (k : Int) < (n : Int) := by omega
      generalize zs[k] = x at *
      go_wp2_with fail
      refine (two_set HT.out hrel.out (k : Int) x (i64_of (by omega) (by omega)) (by rw [HLN.out]; omega)).mono ?_
      rintro e w3 ⟨rfl, h3⟩
      rw [HS.out] at h3
      have hck3 := (h3.below.cell (p := ⟨b, o + k, none⟩) hB1).trans hcw
      have H3 := Lib.hid h3.swap
      clear h3 hck
      go_wp2_with fail
      refine (two_set HT.out H3.out (k : Int) x (i64_of (by omega) (by omega)) (by rw [HLN.out]; omega)).mono ?_
      rintro e w4 ⟨rfl, h4⟩
      rw [HS.out] at h4
      have H4 := Lib.hid h4.swap
      clear h4 hck3 hcw
      go_wp2
      go_roundw
      case rel => exact ⟨k + 1, by omega, by go_num, H4⟩
      case measure => simp [intOf]; omega
    · obtain rfl : k = n := by omega
      have hlen := length_laidT zs k
      generalize laidT zs k = S at *
      have HLN := Lib.hid hlen
      have hl1 := length_setD_le id at_ S
      have hl2 := length_setD_le id later S
      have hl3 := length_offD_le id (setD id later S)
      have HL1 := Lib.hid (show (setD id at_ S).length ≤ 1000 by omega)
      have HL2 := Lib.hid (show (setD id later S).length ≤ 1000 by omega)
      have HL3 := Lib.hid (show (offD id (setD id later S)).length ≤ 1000 by omega)
      have HSS := Lib.hid (setD_setD id at_ later S)
      have HHS := Lib.hid (hasD_setD id later S)
      clear hlen hl1 hl2 hl3
      go_wp2_with fail
      refine (two_set HT.out hrel.out id at_ hi (by rw [HLN.out]; omega)).mono ?_
      rintro e w3 ⟨rfl, h3⟩
      have H3 := Lib.hid h3; clear h3
      go_wp2_with fail
      refine (two_set HT.out H3.out id later hi HL1.out).mono ?_
      rintro e w4 ⟨rfl, h4⟩
      rw [HSS.out] at h4
      have H4 := Lib.hid h4.swap; clear h4 H3
      go_wp2_with fail
      refine (two_set HT.out H4.out id later hi (by rw [HLN.out]; omega)).mono ?_
      rintro e w5 ⟨rfl, h5⟩
      have H5 := Lib.hid h5.swap; clear h5 H4
      generalize setD id later S = U at *
      go_wp2_with fail
      refine (two_len HT.out H5.out HL2.out).mono ?_
      rintro e w6 ⟨rfl, h6⟩
      have H6 := Lib.hid h6.swap; clear h6 H5
      go_wp2_with fail
      refine (two_len HT.out H6.out HL2.out).mono ?_
      rintro e w7 ⟨rfl, h7⟩
      have H7 := Lib.hid h7.swap; clear h7 H6
      go_wp2_with fail
      refine (two_clear HT.out H7.out id hi HL2.out).mono ?_
      rintro e w8 ⟨rfl, h8⟩
      rw [HHS.out, if_pos rfl]
      have H8 := Lib.hid h8.swap; clear h8 H7
      go_wp2_with fail
      refine (two_clear HT.out H8.out id hi HL2.out).mono ?_
      rintro e w9 ⟨rfl, h9⟩
      rw [HHS.out, if_pos rfl]
      have H9 := Lib.hid h9.swap; clear h9 H8
      have HDR := Lib.hid (hasD_drop id U (dueN 9223372036854775807 (offD id U)))
      generalize offD id U = V at *
      go_wp2_with fail
      refine (two_due HT.out H9.out 9223372036854775807 HL3.out).mono ?_
      rintro e wa ⟨o, rfl, ha⟩
      have HA := Lib.hid ha; clear ha H9
      go_wp2_with fail
      refine (told_due HT.out HA.out 9223372036854775807 HL3.out).mono ?_
      rintro e wb ⟨o2, rfl, hb, ⟨B1, ho1⟩, B2, ho2⟩
      obtain ⟨a1, c1, rfl, r1⟩ := own_rd ho1
      obtain ⟨a2, c2, rfl, r2⟩ := own_rd ho2
      have HB := Lib.hid hb; clear hb HA ho1 ho2
      have hdl : (V.drop (dueN 9223372036854775807 V)).length ≤ 1000 := by rw [List.length_drop]; have := HL3.out; omega
      have HDL := Lib.hid hdl; clear hdl
      have hil : (ids (V.take (dueN 9223372036854775807 V))).length ≤ 1000 := by have := HL3.out; simp [ids]; omega
      generalize V.drop (dueN 9223372036854775807 V) = X at *
      generalize hids : ids (V.take (dueN 9223372036854775807 V)) = Y at *
      clear hids
      go_wp2_with fail
      refine (awake_shown HT.out wb).mono ?_
      rintro e wc ⟨rfl, hc⟩
      have HC := Lib.hid (HB.out.on HT.out hc)
      have r1' := r1.below hc (Nat.le_refl _)
      have r2' := r2.below hc (Nat.le_refl _)
      clear r1 r2 hc HB
      have hI := ints_same a1 a2 Y.length c1 Y.length c2 _ _ Y Y wc rfl rfl r1' r2' (by unfold maxLen; omega) (by unfold maxLen; omega)
      rw [decide_eq_true rfl] at hI
      have HI := Lib.hid hI; clear hI
      go_wp2_with fail
      refine HI.out.mono ?_
      rintro e wd ⟨rfl, hd⟩
      have HD := Lib.hid (HC.out.on HT.out hd)
      clear hd HC HI
      go_wp2_with fail
      refine (two_clear HT.out HD.out id hi HDL.out).mono ?_
      rintro e we ⟨rfl, he⟩
      have hfin := he.below
      rw [HDR.out]
      clear he HD
      go_wp2_with fail
      go_ret
      exact ⟨rfl, hfin⟩
end Go.Proofs.Ytpepmjkkckgkkaa
