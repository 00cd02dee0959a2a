/-
  Layer 7 as mathematics: what is looked up, when objects are right, in words that do not hang on places.
-/
import Derived.Test.YtkghkioghkapcaaObjT
namespace Go.Proofs.Ytkghkioghkapcaa

theorem all_range {p : Nat → Bool} {n : Nat} : (List.range n).all p = true ↔ ∀ k, k < n → p k = true := by simp [List.all_eq_true]

/-! ### looking up -/
theorem idxI_find {α : Type} (p : α → Bool) (l : List α) : (idxI p l < 0 ∧ l.find? p = none) ∨ ∃ k : Nat, ∃ h : k < l.length, idxI p l = k ∧ l.find? p = some l[k] ∧ p l[k] = true := by
  by_cases hn : idxI p l < 0
  · left
    exact ⟨hn, List.find?_eq_none.2 fun x hx => by simp [idxI_neg hn x hx]⟩
  · right
    obtain ⟨k, hk⟩ : ∃ k : Nat, idxI p l = k := ⟨(idxI p l).toNat, by omega⟩
    obtain ⟨h, h1, h2⟩ := idxI_get hk
    refine ⟨k, h, hk, ?_, h1⟩
    rw [List.find?_eq_some_iff_getElem]
    exact ⟨h1, k, h, rfl, fun j hj => by simp [h2 j (by omega) hj]⟩
theorem find_uniq {α : Type} {p : α → Bool} {l : List α} (hu : ∀ x ∈ l, ∀ y ∈ l, p x = true → p y = true → x = y) {x : α} : l.find? p = some x ↔ x ∈ l ∧ p x = true := by
  constructor
  · intro h
    exact ⟨List.mem_of_find?_eq_some h, List.find?_some h⟩
  · rintro ⟨hx, hp⟩
    cases hf : l.find? p with
    | none => rw [List.find?_eq_none] at hf; exact absurd hp (hf x hx)
    | some y => rw [hu y (List.mem_of_find?_eq_some hf) x hx (List.find?_some hf) hp]

def lookT (ts : List Tab) (s n : ByteArray) : Option Tab := ts.find? fun x => eqT x.schema s && eqT x.name n
def lookR (rs : List Rul) (n : ByteArray) : Option Rul := rs.find? fun r => eqT r.name n
def lookC (cs : List Col) (n : ByteArray) : Option Col := cs.find? fun c => eqT c.name n
/-- The kind of a column of that name. -/
def kindO (cs : List Col) (n : ByteArray) : Option Int := (lookC cs n).map Col.kind
theorem kindO_get {cs : List Col} {n : ByteArray} : (colI cs n < 0 ∧ kindO cs n = none) ∨ (0 ≤ colI cs n ∧ kindO cs n = some (kindAt cs (colI cs n))) := by
  rcases idxI_find (fun c : Col => eqT c.name n) cs with ⟨h1, h2⟩ | ⟨k, h, h1, h2, _⟩
  · exact .inl ⟨h1, by unfold kindO lookC; rw [h2]; rfl⟩
  · refine .inr ⟨by unfold colI; omega, ?_⟩
    unfold kindO lookC kindAt colI
    rw [h2, h1]
    simp [List.getElem?_eq_getElem h]
theorem kindO_iff {cs : List Col} {n : ByteArray} : 0 ≤ colI cs n ↔ (kindO cs n).isSome = true := by
  rcases kindO_get (cs := cs) (n := n) with ⟨h1, h2⟩ | ⟨h1, h2⟩
  · rw [h2]; simp; omega
  · rw [h2]; simp; exact h1

/-- Whether a rule fits hangs on its columns' kinds alone. -/
theorem fitsB_congr {l l' : List Col} {r : Rul} (h : ∀ s ∈ r.cols, kindO l s = kindO l' s) : fitsB l r = fitsB l' r := by
  have h1 : ∀ s ∈ r.cols, decide (0 ≤ colI l s) = decide (0 ≤ colI l' s) := fun s hs => decide_eq_decide.2 (by rw [kindO_iff, kindO_iff, h s hs])
  have h2 : (List.range r.cols.length).all (fitAt l r.cols) = (List.range r.cols.length).all (fitAt l' r.cols) := by
    rw [Bool.eq_iff_iff, all_range, all_range]
    refine forall_congr' fun k => forall_congr' fun hk => ?_
    unfold fitAt
    rw [List.getElem?_eq_getElem hk]
    simp only
    rw [h1 _ (List.getElem_mem hk)]
  unfold fitsB
  rw [h2]
  by_cases hk : r.kind = 3
  · have e1 : ¬ (r.kind = 1 ∨ r.kind = 2) := by omega
    rw [if_neg e1, if_neg e1, if_pos hk, if_pos hk]
    by_cases hf : (List.range r.cols.length).all (fitAt l' r.cols) = true
    · by_cases hl : r.cols.length = 1
      · have hm : r.cols.headD ⟨#[]⟩ ∈ r.cols := by
          cases hc : r.cols with
          | nil => rw [hc] at hl; simp at hl
          | cons a b => simp
        have e2 := h _ hm
        have e3 : decide (kindAt l (colI l (r.cols.headD ⟨#[]⟩)) = 2) = decide (kindAt l' (colI l' (r.cols.headD ⟨#[]⟩)) = 2) := by
          rcases kindO_get (cs := l) (n := r.cols.headD ⟨#[]⟩) with ⟨_, g1⟩ | ⟨_, g1⟩ <;> rcases kindO_get (cs := l') (n := r.cols.headD ⟨#[]⟩) with ⟨g3, g2⟩ | ⟨_, g2⟩
          · exfalso
            rw [all_range] at hf
            have := hf 0 (by omega)
            unfold fitAt at this
            rw [List.getElem?_eq_getElem (by omega)] at this
            simp only [Bool.and_eq_true, decide_eq_true_eq] at this
            have e4 : r.cols[0] = r.cols.headD ⟨#[]⟩ := by
              rw [List.headD_eq_head?_getD, List.head?_eq_getElem?, List.getElem?_eq_getElem (by omega)]
              rfl
            rw [e4] at this
            omega
          · rw [g1, g2] at e2; cases e2
          · rw [g1, g2] at e2; cases e2
          · rw [g1, g2] at e2
            injection e2 with e2
            rw [e2]
        rw [e3]
      · rw [decide_eq_false hl]; simp
    · rw [Bool.not_eq_true] at hf
      rw [hf]
      simp
  · rw [if_neg hk, if_neg hk]
theorem fits_cols {l : List Col} {r : Rul} (h : fitsB l r = true) : ∀ s ∈ r.cols, (kindO l s).isSome = true := by
  intro s hs
  obtain ⟨k, hk, rfl⟩ := List.mem_iff_getElem.1 hs
  unfold fitsB at h
  simp only [Bool.and_eq_true] at h
  have := all_range.1 h.1.1 k hk
  unfold fitAt at this
  rw [List.getElem?_eq_getElem hk] at this
  simp only [Bool.and_eq_true, decide_eq_true_eq] at this
  exact kindO_iff.1 this.1
theorem fits_name {l : List Col} {r : Rul} (h : fitsB l r = true) : nameB r.name = true := by
  unfold fitsB at h
  simp only [Bool.and_eq_true] at h
  exact h.1.2.1
theorem fits_kind {l : List Col} {r : Rul} (h : fitsB l r = true) : r.kind = 4 → nameB r.schema = true ∧ nameB r.table = true ∧ nameB r.key = true := by
  intro hk
  unfold fitsB at h
  rw [if_neg (by omega), if_neg (by omega), if_pos hk] at h
  simp only [Bool.and_eq_true] at h
  exact ⟨h.2.1, h.2.2.1, h.2.2.2.1⟩

/-- A foreign rule has its key. -/
def KeyOk (ts : List Tab) (l : List Col) (r : Rul) : Prop :=
  ∃ t k, lookT ts r.schema r.table = some t ∧ lookR t.rules r.key = some k ∧ k.kind = 2 ∧ k.cols.length = r.cols.length ∧
    ∀ (i : Nat) (h : i < k.cols.length) (h' : i < r.cols.length), ∃ x, kindO l r.cols[i] = some x ∧ kindO t.cols k.cols[i] = some x
theorem keyE_iff {ts : List Tab} {l : List Col} {r : Rul} : keyE ts l r = 0 ↔ KeyOk ts l r := by
  unfold keyE KeyOk lookT
  rcases idxI_find (fun x : Tab => eqT x.schema r.schema && eqT x.name r.table) ts with ⟨h1, h2⟩ | ⟨j, hj, h1, h2, _⟩
  · have hn : tabI ts r.schema r.table < 0 := h1
    rw [h2]
    constructor
    · intro h
      split at h
      · cases h
      · rw [if_pos hn] at h; cases h
    · rintro ⟨t, k, h, _⟩; cases h
  · have hn : tabI ts r.schema r.table = (j : Int) := h1
    rw [h2, hn]
    simp only [Int.toNat_natCast, List.getElem?_eq_getElem hj]
    rw [if_neg (by omega)]
    generalize ts[j] = t
    unfold lookR
    rcases idxI_find (fun x : Rul => eqT x.name r.key) t.rules with ⟨g1, g2⟩ | ⟨q, hq, g1, g2, _⟩
    · have gn : rulI t.rules r.key < 0 := g1
      constructor
      · intro h
        split at h
        · cases h
        · rw [if_pos gn] at h; cases h
      · rintro ⟨t', k, h, h', _⟩
        cases h
        rw [g2] at h'
        cases h'
    · have gn : rulI t.rules r.key = (q : Int) := g1
      rw [gn]
      simp only [Int.toNat_natCast, List.getElem?_eq_getElem hq]
      rw [if_neg (by omega)]
      have hkk : t.rules.find? (fun x => eqT x.name r.key) = some t.rules[q] := g2
      generalize t.rules[q] = k at *
      constructor
      · intro h
        split at h
        · cases h
        · rename_i hk2
          split at h
          · cases h
          · rename_i hl
            split at h
            · rename_i hall
              refine ⟨t, k, rfl, hkk, by omega, by omega, fun i hi hi' => ?_⟩
              have hp := all_range.1 hall i hi
              unfold pairAt at hp
              have e1 : r.cols.getD i ⟨#[]⟩ = r.cols[i] := by simp [List.getD, List.getElem?_eq_getElem hi']
              have e2 : k.cols.getD i ⟨#[]⟩ = k.cols[i] := by simp [List.getD, List.getElem?_eq_getElem hi]
              rw [e1, e2] at hp
              simp only [Bool.and_eq_true, decide_eq_true_eq] at hp
              rcases kindO_get (cs := l) (n := r.cols[i]) with ⟨c1, _⟩ | ⟨_, c1⟩
              · omega
              rcases kindO_get (cs := t.cols) (n := k.cols[i]) with ⟨d1, _⟩ | ⟨_, d1⟩
              · omega
              exact ⟨_, c1, by rw [d1, hp.2.2]⟩
            · cases h
      · rintro ⟨t', k', h, h', hk2, hlen, hall⟩
        cases h
        rw [hkk] at h'
        cases h'
        rw [if_neg (by omega), if_neg (by omega), if_pos]
        refine all_range.2 fun i hi => ?_
        have hi' : i < r.cols.length := by omega
        obtain ⟨x, hx, hy⟩ := hall i hi hi'
        unfold pairAt
        have e1 : r.cols.getD i ⟨#[]⟩ = r.cols[i] := by simp [List.getD, List.getElem?_eq_getElem hi']
        have e2 : k.cols.getD i ⟨#[]⟩ = k.cols[i] := by simp [List.getD, List.getElem?_eq_getElem hi]
        rw [e1, e2]
        rcases kindO_get (cs := l) (n := r.cols[i]) with ⟨_, c1⟩ | ⟨c0, c1⟩
        · rw [c1] at hx; cases hx
        rcases kindO_get (cs := t.cols) (n := k.cols[i]) with ⟨_, d1⟩ | ⟨d0, d1⟩
        · rw [d1] at hy; cases hy
        rw [c1] at hx
        rw [d1] at hy
        injection hx with hx
        injection hy with hy
        simp only [Bool.and_eq_true, decide_eq_true_eq]
        exact ⟨c0, d0, by rw [hx, hy]⟩
/-- The key is there still, where the tables have changed. -/
theorem KeyOk.move {ts ts' : List Tab} {l l' : List Col} {r : Rul} (h : KeyOk ts l r) (hl : ∀ s ∈ r.cols, kindO l' s = kindO l s)
    (ht : ∀ t, lookT ts r.schema r.table = some t → ∃ t', lookT ts' r.schema r.table = some t' ∧ ∀ k, lookR t.rules r.key = some k → k.kind = 2 → lookR t'.rules r.key = some k ∧ ∀ s ∈ k.cols, kindO t'.cols s = kindO t.cols s) : KeyOk ts' l' r := by
  obtain ⟨t, k, h1, h2, h3, h4, h5⟩ := h
  obtain ⟨t', g1, g2⟩ := ht t h1
  obtain ⟨g3, g4⟩ := g2 k h2 h3
  refine ⟨t', k, g1, g3, h3, h4, fun i hi hi' => ?_⟩
  rw [hl _ (List.getElem_mem hi'), g4 _ (List.getElem_mem hi)]
  exact h5 i hi hi'
end Go.Proofs.Ytkghkioghkapcaa
