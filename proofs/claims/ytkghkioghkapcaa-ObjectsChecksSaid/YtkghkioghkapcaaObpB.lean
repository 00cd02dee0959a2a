/-
  Layer 7, the program, by contract: orders and places. (Made by wip/gen_obp.py.)
-/
import Derived.Test.YtkghkioghkapcaaObpA
import Derived.Test.YtkghkioghkapcaaObjO
import Derived.Test.YtkghkioghkapcaaObjC
import Derived.Shelf.Abstract
namespace Go.Proofs.Ytkghkioghkapcaa
open Go.RowKit Go.Sort Go.Shelf

theorem Lst.load {α : Type} {P : Program} {Q : Elem α} {sz : Nat} {w : World} {S : Nat → Prop} {a : Option Addr} {n cap : Nat} {l : List α} (h : Lst w S (Q w S) sz (.slice a n cap) l) (hQ : Stays Q sz) {k : Nat} (hk : k < l.length) (hz : sz ≠ 0 := by decide) :
    ∃ b o x, a = some ⟨b, o, none⟩ ∧ S b ∧ b < w.heap.size ∧ Q w S x l[k] ∧ ∀ W, Below w.heap.size w W → Sem.run P (loadCellsFrom ⟨b, o + k * sz, none⟩ 0 sz #[]) W = .ok x.toArray W := by
  obtain ⟨b, o, x, ha, hb, hx, hc⟩ := h.at hk
  have hsz := hQ.size hx
  have hb' : b < w.heap.size := by
    have h1 := hc 0 (x[0]'(by omega)) (List.getElem?_eq_getElem (by omega))
    exact World.block_lt_of_cell? w _ h1
  refine ⟨b, o, x, ha, hb, hb', hx, fun W hW => run_loadCellsFrom_list P _ _ x sz hsz fun i v hi => ?_⟩
  rw [Addr.add_lit, hW.cell (p := ⟨b, o + k * sz + i, none⟩) hb']
  exact hc i v hi
def cmpI (a b : ByteArray) : Int := if ltT a b then -1 else if ltT b a then 1 else 0
theorem eqT_self (a : ByteArray) : (a.toList == a.toList) = true := by simp
theorem prog_nan_any (a : ByteArray) (w : World) : Calls Try.prog 142 #[.string a] w fun e w' => e = .returned (.bool false) ∧ w = w' := by
  have h := eqT_self a
  have h2 : (a.toList != a.toList) = false := by simp
  go_enter Try.func142, Try.ntmps142
  go_wp2
  go_ret
  exact ⟨rfl, rfl⟩
theorem prog_cmp_any (a b : ByteArray) (w : World) : Calls Try.prog 121 #[.string a, .string b] w fun e w' => e = .returned (.int .i64 (cmpI a b)) ∧ w = w' := by
  cases h1 : ltT a b with
  | true =>
    have HF := Lib.hid (show cmpI a b = -1 by unfold cmpI; rw [h1]; rfl)
    have e1 : Op.bytesLess a.toList b.toList = true := h1
    clear h1
    go_enter Try.func121, Try.ntmps121
    go_wp2_with (go_at_call 142; refine (prog_nan_any _ _).mono ?_; rintro e w' ⟨rfl, rfl⟩)
    go_ret
    exact ⟨by rw [HF.out]; rfl, rfl⟩
  | false =>
    have e1 : Op.bytesLess a.toList b.toList = false := h1
    cases h2 : eqT a b with
    | true =>
      have HF := Lib.hid (show cmpI a b = 0 by obtain rfl := eqT_iff.1 h2; unfold cmpI; rw [ltT_irr]; rfl)
      have e2 : (a.toList == b.toList) = true := h2
      clear h1 h2
      go_enter Try.func121, Try.ntmps121
      go_wp2_with (go_at_call 142; refine (prog_nan_any _ _).mono ?_; rintro e w' ⟨rfl, rfl⟩)
      go_ret
      exact ⟨by rw [HF.out]; rfl, rfl⟩
    | false =>
      have HF := Lib.hid (show cmpI a b = 1 by
        unfold cmpI
        rw [h1]
        rcases ltT_or (a := a) (b := b) with h | h | h
        · rw [h1] at h; cases h
        · exact absurd h (eqT_no.1 h2)
        · rw [h]; rfl)
      have e2 : (a.toList == b.toList) = false := h2
      clear h1 h2
      go_enter Try.func121, Try.ntmps121
      go_wp2_with (go_at_call 142; refine (prog_nan_any _ _).mono ?_; rintro e w' ⟨rfl, rfl⟩)
      go_ret
      exact ⟨by rw [HF.out]; rfl, rfl⟩

set_option maxRecDepth 100000 in
set_option maxHeartbeats 2000000 in
theorem prog_idx_sch (B : Nat) (a : Option Addr) (n c : Nat) (l : List Sch) (g : Nat) (lb : Array Value) (p : Sch → Bool) (w : World) (h : Lst w (· < B) (schQ w (· < B)) 2 (.slice a n c) l) (hB : B ≤ w.heap.size)
    (eg : ∀ args w, (callFunc g args).run Try.prog w = .ok (.enter g args) w)
    (hp : ∀ W x y, Gr w W → schQ W (· < B) x y → Calls Try.prog g (#[.agg x.toArray] ++ lb) W fun e w' => e = .returned (.bool (p y)) ∧ Gr W w') :
    Calls Try.prog 117 #[.slice a n c, .func (.func g) #[] lb] w fun e w' => e = .returned (.int .i64 (idxI p l)) ∧ Gr w w' := by
  obtain ⟨hl, hc, hm⟩ := h.len
  unfold maxLen at hm
  have HL := Lib.hid hl
  have HH := Lib.hid h
  have HP := Lib.hid hp
  clear h hl hp
  go_enter Try.func117, Try.ntmps117
  go_wp2_with fail
  go_loopw [5, 8] (fun _ i wr => ∃ k : Nat, k ≤ n ∧ i = .int .i64 k ∧ Hid (∀ x ∈ l.take k, p x = false) ∧ Gr w wr) (fun _ i _ => n - (intOf i).toNat)
  case atStart => exact ⟨0, Nat.zero_le _, rfl, Lib.hid (by simp), Gr.refl _⟩
  case round =>
    obtain ⟨k, hk, rfl, hn, hbw⟩ := hrel
    by_cases hlt : k < n
    · have lk : k < l.length := by rw [HL.out]; exact hlt
      obtain ⟨b, o, x, rfl, hbB, hx, hcl⟩ := HH.out.at lk
      have hbl : b < w.heap.size := Nat.lt_of_lt_of_le hbB hB
      have hcw : ∀ j u, x[j]? = some u → wr.cell? ⟨b, o + k * 2 + j, none⟩ = some u := fun j u hj => (hbw.below.cell (p := ⟨b, o + k * 2 + j, none⟩) hbl).trans (hcl j u hj)
      have hxr : schQ wr (· < B) x l[k] := sch_stays.keep hx (fun _ h => h) (hbw.keeps fun j hj => Nat.lt_of_lt_of_le hj hB)
      have hcall := HP.out wr x l[k] hbw hxr
      have hyes : p l[k] = true → idxI p l = k := fun h => idxI_take lk hn.out h
      have hno := fun h => take_any_succ (p := p) lk hn.out h
      have k0 : (0 : Int) ≤ (k : Int) := by omega
      have k1 : (k : Int) < (n : Int) := by omega
      clear hcl hxr hn hbl
      generalize l[k] = y at *
      obtain rfl : x = [.string y.name, .string y.owner] := hx
      have c0 := hcw 0 _ rfl
      rw [Nat.add_zero] at c0
      have c1 := hcw 1 _ rfl
      clear hcw
      cases hq : p y with
      | true =>
        rw [hq] at hcall
        have HY := Lib.hid (hyes hq)
        have HC := Lib.hid hcall
        clear hyes hno hq hcall
        go_wp2_with (go_at_fn g; refine HC.out.mono ?_; rintro e w' ⟨rfl, hb'⟩)
        go_ret
        exact ⟨by rw [HY.out]; rfl, hbw.trans hb'⟩
      | false =>
        rw [hq] at hcall
        have HN := Lib.hid (hno hq)
        have HC := Lib.hid hcall
        clear hyes hno hq hcall
        go_wp2_with (go_at_fn g; refine HC.out.mono ?_; rintro e w' ⟨rfl, hb'⟩)
        go_roundw
        case rel => exact ⟨k + 1, by omega, by go_num, HN, hbw.trans hb'⟩
        case measure => simp [intOf]; omega
    · have HF := Lib.hid (show idxI p l = -1 from idxI_all (by rw [HL.out]; omega) hn.out)
      go_wp2_with fail
      go_ret
      exact ⟨by rw [HF.out]; rfl, hbw⟩
theorem prog_schcl_any (b : Nat) (s : ByteArray) (x : List Value) (y : Sch) (S : Nat → Prop) (W : World) (hb : W.cell? ⟨b, 0, none⟩ = some (.string s)) (hx : schQ W S x y) :
    Calls Try.prog 118 #[.agg x.toArray, .pointer (some ⟨b, 0, none⟩)] W fun e w' => e = .returned (.bool (eqT y.name s)) ∧ Gr W w' := by
  obtain rfl : x = [.string y.name, .string y.owner] := hx
  have hlt := World.block_lt_of_cell? W _ hb
  have hg := Gr.alloc W (.cells #[.string y.name, .string y.owner] 75)
  have hb2 := (hg.below.cell (p := ⟨b, 0, none⟩) hlt).trans hb
  have hbx : ∀ (j : Nat) u, ([.string y.name, .string y.owner])[j]? = some u → (W.alloc (.cells #[.string y.name, .string y.owner] 75)).cell? ⟨W.heap.size, j, none⟩ = some u := fun j u hj => by
    rw [cell_of_row _ _ _ _ _ _ (heap_alloc_new W _)]
    simpa using hj
  have c0 := hbx 0 _ rfl
  clear hbx hlt hb
  cases hq : eqT y.name s with
  | true =>
    have e1 : (y.name.toList == s.toList) = true := hq
    clear hq
    go_enter Try.func118, Try.ntmps118
    go_wp2_with fail
    go_ret
    exact ⟨rfl, hg⟩
  | false =>
    have e1 : (y.name.toList == s.toList) = false := hq
    clear hq
    go_enter Try.func118, Try.ntmps118
    go_wp2_with fail
    go_ret
    exact ⟨rfl, hg⟩
theorem prog_schplace_any (B : Nat) (a : Option Addr) (n c : Nat) (l : List Sch) (s : ByteArray) (w : World) (h : Lst w (· < B) (schQ w (· < B)) 2 (.slice a n c) l) (hB : B ≤ w.heap.size) :
    Calls Try.prog 64 #[.slice a n c, .string s] w fun e w' => e = .returned (.int .i64 (schI l s)) ∧ Gr w w' := by
  have hg := Gr.alloc w (.cells #[.string s] 9)
  have h2 : Lst (w.alloc (.cells #[.string s] 9)) (· < B) (schQ (w.alloc (.cells #[.string s] 9)) (· < B)) 2 (.slice a n c) l :=
    h.keep (fun _ h => h) (hg.keeps fun j hj => Nat.lt_of_lt_of_le hj hB) fun x y _ hx => sch_stays.keep hx (fun _ h => h) (hg.keeps fun j hj => Nat.lt_of_lt_of_le hj hB)
  have hc : (w.alloc (.cells #[.string s] 9)).cell? ⟨w.heap.size, 0, none⟩ = some (.string s) := by
    rw [cell_of_row _ _ _ _ _ _ (heap_alloc_new w _)]; rfl
  have hlt : w.heap.size < (w.alloc (.cells #[.string s] 9)).heap.size := by simp
  have HC := Lib.hid (prog_idx_sch B a n c l 118 #[.pointer (some ⟨w.heap.size, 0, none⟩)] (fun y => eqT y.name s) _ h2 (by simp; omega) (enters_of Try.func118 (by kernel_rfl) rfl)
    fun W x y hW hx => prog_schcl_any w.heap.size s x y (· < B) W ((hW.below.cell (p := ⟨w.heap.size, 0, none⟩) hlt).trans hc) hx)
  have HG := Lib.hid hg
  clear h h2 hc hlt hg
  go_enter Try.func64, Try.ntmps64
  go_wp2_with (go_at_call 117; refine HC.out.mono ?_; rintro e w' ⟨rfl, hb'⟩)
  go_ret
  exact ⟨rfl, HG.out.trans hb'⟩

set_option maxRecDepth 100000 in
set_option maxHeartbeats 2000000 in
theorem prog_idx_col (B : Nat) (a : Option Addr) (n c : Nat) (l : List Col) (g : Nat) (lb : Array Value) (p : Col → Bool) (w : World) (h : Lst w (· < B) (colQ w (· < B)) 3 (.slice a n c) l) (hB : B ≤ w.heap.size)
    (eg : ∀ args w, (callFunc g args).run Try.prog w = .ok (.enter g args) w)
    (hp : ∀ W x y, Gr w W → colQ W (· < B) x y → Calls Try.prog g (#[.agg x.toArray] ++ lb) W fun e w' => e = .returned (.bool (p y)) ∧ Gr W w') :
    Calls Try.prog 126 #[.slice a n c, .func (.func g) #[] lb] w fun e w' => e = .returned (.int .i64 (idxI p l)) ∧ Gr w w' := by
  obtain ⟨hl, hc, hm⟩ := h.len
  unfold maxLen at hm
  have HL := Lib.hid hl
  have HH := Lib.hid h
  have HP := Lib.hid hp
  clear h hl hp
  go_enter Try.func126, Try.ntmps126
  go_wp2_with fail
  go_loopw [5, 8] (fun _ i wr => ∃ k : Nat, k ≤ n ∧ i = .int .i64 k ∧ Hid (∀ x ∈ l.take k, p x = false) ∧ Gr w wr) (fun _ i _ => n - (intOf i).toNat)
  case atStart => exact ⟨0, Nat.zero_le _, rfl, Lib.hid (by simp), Gr.refl _⟩
  case round =>
    obtain ⟨k, hk, rfl, hn, hbw⟩ := hrel
    by_cases hlt : k < n
    · have lk : k < l.length := by rw [HL.out]; exact hlt
      obtain ⟨b, o, x, rfl, hbB, hx, hcl⟩ := HH.out.at lk
      have hbl : b < w.heap.size := Nat.lt_of_lt_of_le hbB hB
      have hcw : ∀ j u, x[j]? = some u → wr.cell? ⟨b, o + k * 3 + j, none⟩ = some u := fun j u hj => (hbw.below.cell (p := ⟨b, o + k * 3 + j, none⟩) hbl).trans (hcl j u hj)
      have hxr : colQ wr (· < B) x l[k] := col_stays.keep hx (fun _ h => h) (hbw.keeps fun j hj => Nat.lt_of_lt_of_le hj hB)
      have hcall := HP.out wr x l[k] hbw hxr
      have hyes : p l[k] = true → idxI p l = k := fun h => idxI_take lk hn.out h
      have hno := fun h => take_any_succ (p := p) lk hn.out h
      have k0 : (0 : Int) ≤ (k : Int) := by omega
      have k1 : (k : Int) < (n : Int) := by omega
      clear hcl hxr hn hbl
      generalize l[k] = y at *
      obtain rfl : x = [.string y.name, .int .i64 y.kind, .bool y.null] := hx
      have c0 := hcw 0 _ rfl
      rw [Nat.add_zero] at c0
      have c1 := hcw 1 _ rfl
      have c2 := hcw 2 _ rfl
      clear hcw
      cases hq : p y with
      | true =>
        rw [hq] at hcall
        have HY := Lib.hid (hyes hq)
        have HC := Lib.hid hcall
        clear hyes hno hq hcall
        go_wp2_with (go_at_fn g; refine HC.out.mono ?_; rintro e w' ⟨rfl, hb'⟩)
        go_ret
        exact ⟨by rw [HY.out]; rfl, hbw.trans hb'⟩
      | false =>
        rw [hq] at hcall
        have HN := Lib.hid (hno hq)
        have HC := Lib.hid hcall
        clear hyes hno hq hcall
        go_wp2_with (go_at_fn g; refine HC.out.mono ?_; rintro e w' ⟨rfl, hb'⟩)
        go_roundw
        case rel => exact ⟨k + 1, by omega, by go_num, HN, hbw.trans hb'⟩
        case measure => simp [intOf]; omega
    · have HF := Lib.hid (show idxI p l = -1 from idxI_all (by rw [HL.out]; omega) hn.out)
      go_wp2_with fail
      go_ret
      exact ⟨by rw [HF.out]; rfl, hbw⟩
theorem prog_colcl_any (b : Nat) (s : ByteArray) (x : List Value) (y : Col) (S : Nat → Prop) (W : World) (hb : W.cell? ⟨b, 0, none⟩ = some (.string s)) (hx : colQ W S x y) :
    Calls Try.prog 127 #[.agg x.toArray, .pointer (some ⟨b, 0, none⟩)] W fun e w' => e = .returned (.bool (eqT y.name s)) ∧ Gr W w' := by
  obtain rfl : x = [.string y.name, .int .i64 y.kind, .bool y.null] := hx
  have hlt := World.block_lt_of_cell? W _ hb
  have hg := Gr.alloc W (.cells #[.string y.name, .int .i64 y.kind, .bool y.null] 41)
  have hb2 := (hg.below.cell (p := ⟨b, 0, none⟩) hlt).trans hb
  have hbx : ∀ (j : Nat) u, ([.string y.name, .int .i64 y.kind, .bool y.null])[j]? = some u → (W.alloc (.cells #[.string y.name, .int .i64 y.kind, .bool y.null] 41)).cell? ⟨W.heap.size, j, none⟩ = some u := fun j u hj => by
    rw [cell_of_row _ _ _ _ _ _ (heap_alloc_new W _)]
    simpa using hj
  have c0 := hbx 0 _ rfl
  clear hbx hlt hb
  cases hq : eqT y.name s with
  | true =>
    have e1 : (y.name.toList == s.toList) = true := hq
    clear hq
    go_enter Try.func127, Try.ntmps127
    go_wp2_with fail
    go_ret
    exact ⟨rfl, hg⟩
  | false =>
    have e1 : (y.name.toList == s.toList) = false := hq
    clear hq
    go_enter Try.func127, Try.ntmps127
    go_wp2_with fail
    go_ret
    exact ⟨rfl, hg⟩
theorem prog_colplace_any (B : Nat) (a : Option Addr) (n c : Nat) (l : List Col) (s : ByteArray) (w : World) (h : Lst w (· < B) (colQ w (· < B)) 3 (.slice a n c) l) (hB : B ≤ w.heap.size) :
    Calls Try.prog 84 #[.slice a n c, .string s] w fun e w' => e = .returned (.int .i64 (colI l s)) ∧ Gr w w' := by
  have hg := Gr.alloc w (.cells #[.string s] 9)
  have h2 : Lst (w.alloc (.cells #[.string s] 9)) (· < B) (colQ (w.alloc (.cells #[.string s] 9)) (· < B)) 3 (.slice a n c) l :=
    h.keep (fun _ h => h) (hg.keeps fun j hj => Nat.lt_of_lt_of_le hj hB) fun x y _ hx => col_stays.keep hx (fun _ h => h) (hg.keeps fun j hj => Nat.lt_of_lt_of_le hj hB)
  have hc : (w.alloc (.cells #[.string s] 9)).cell? ⟨w.heap.size, 0, none⟩ = some (.string s) := by
    rw [cell_of_row _ _ _ _ _ _ (heap_alloc_new w _)]; rfl
  have hlt : w.heap.size < (w.alloc (.cells #[.string s] 9)).heap.size := by simp
  have HC := Lib.hid (prog_idx_col B a n c l 127 #[.pointer (some ⟨w.heap.size, 0, none⟩)] (fun y => eqT y.name s) _ h2 (by simp; omega) (enters_of Try.func127 (by kernel_rfl) rfl)
    fun W x y hW hx => prog_colcl_any w.heap.size s x y (· < B) W ((hW.below.cell (p := ⟨w.heap.size, 0, none⟩) hlt).trans hc) hx)
  have HG := Lib.hid hg
  clear h h2 hc hlt hg
  go_enter Try.func84, Try.ntmps84
  go_wp2_with (go_at_call 126; refine HC.out.mono ?_; rintro e w' ⟨rfl, hb'⟩)
  go_ret
  exact ⟨rfl, HG.out.trans hb'⟩

set_option maxRecDepth 100000 in
set_option maxHeartbeats 2000000 in
theorem prog_idx_rul (B : Nat) (a : Option Addr) (n c : Nat) (l : List Rul) (g : Nat) (lb : Array Value) (p : Rul → Bool) (w : World) (h : Lst w (· < B) (rulP w (· < B)) 8 (.slice a n c) l) (hB : B ≤ w.heap.size)
    (eg : ∀ args w, (callFunc g args).run Try.prog w = .ok (.enter g args) w)
    (hp : ∀ W x y, Gr w W → rulP W (· < B) x y → Calls Try.prog g (#[.agg x.toArray] ++ lb) W fun e w' => e = .returned (.bool (p y)) ∧ Gr W w') :
    Calls Try.prog 129 #[.slice a n c, .func (.func g) #[] lb] w fun e w' => e = .returned (.int .i64 (idxI p l)) ∧ Gr w w' := by
  obtain ⟨hl, hc, hm⟩ := h.len
  unfold maxLen at hm
  have HL := Lib.hid hl
  have HH := Lib.hid h
  have HP := Lib.hid hp
  clear h hl hp
  go_enter Try.func129, Try.ntmps129
  go_wp2_with fail
  go_loopw [5, 8] (fun _ i wr => ∃ k : Nat, k ≤ n ∧ i = .int .i64 k ∧ Hid (∀ x ∈ l.take k, p x = false) ∧ Gr w wr) (fun _ i _ => n - (intOf i).toNat)
  case atStart => exact ⟨0, Nat.zero_le _, rfl, Lib.hid (by simp), Gr.refl _⟩
  case round =>
    obtain ⟨k, hk, rfl, hn, hbw⟩ := hrel
    by_cases hlt : k < n
    · have lk : k < l.length := by rw [HL.out]; exact hlt
      obtain ⟨b, o, x, rfl, hbB, hx, hcl⟩ := HH.out.at lk
      have hbl : b < w.heap.size := Nat.lt_of_lt_of_le hbB hB
      have hcw : ∀ j u, x[j]? = some u → wr.cell? ⟨b, o + k * 8 + j, none⟩ = some u := fun j u hj => (hbw.below.cell (p := ⟨b, o + k * 8 + j, none⟩) hbl).trans (hcl j u hj)
      have hxr : rulP wr (· < B) x l[k] := rul_stays.keep hx (fun _ h => h) (hbw.keeps fun j hj => Nat.lt_of_lt_of_le hj hB)
      have hcall := HP.out wr x l[k] hbw hxr
      have hyes : p l[k] = true → idxI p l = k := fun h => idxI_take lk hn.out h
      have hno := fun h => take_any_succ (p := p) lk hn.out h
      have k0 : (0 : Int) ≤ (k : Int) := by omega
      have k1 : (k : Int) < (n : Int) := by omega
      clear hcl hxr hn hbl
      generalize l[k] = y at *
      obtain ⟨v, rfl, _⟩ := hx
      have c0 := hcw 0 _ rfl
      rw [Nat.add_zero] at c0
      have c1 := hcw 1 _ rfl
      have c2 := hcw 2 _ rfl
      have c3 := hcw 3 _ rfl
      have c4 := hcw 4 _ rfl
      have c5 := hcw 5 _ rfl
      have c6 := hcw 6 _ rfl
      have c7 := hcw 7 _ rfl
      clear hcw
      cases hq : p y with
      | true =>
        rw [hq] at hcall
        have HY := Lib.hid (hyes hq)
        have HC := Lib.hid hcall
        clear hyes hno hq hcall
        go_wp2_with (go_at_fn g; refine HC.out.mono ?_; rintro e w' ⟨rfl, hb'⟩)
        go_ret
        exact ⟨by rw [HY.out]; rfl, hbw.trans hb'⟩
      | false =>
        rw [hq] at hcall
        have HN := Lib.hid (hno hq)
        have HC := Lib.hid hcall
        clear hyes hno hq hcall
        go_wp2_with (go_at_fn g; refine HC.out.mono ?_; rintro e w' ⟨rfl, hb'⟩)
        go_roundw
        case rel => exact ⟨k + 1, by omega, by go_num, HN, hbw.trans hb'⟩
        case measure => simp [intOf]; omega
    · have HF := Lib.hid (show idxI p l = -1 from idxI_all (by rw [HL.out]; omega) hn.out)
      go_wp2_with fail
      go_ret
      exact ⟨by rw [HF.out]; rfl, hbw⟩
theorem prog_rulcl_any (b : Nat) (s : ByteArray) (x : List Value) (y : Rul) (S : Nat → Prop) (W : World) (hb : W.cell? ⟨b, 0, none⟩ = some (.string s)) (hx : rulP W S x y) :
    Calls Try.prog 132 #[.agg x.toArray, .pointer (some ⟨b, 0, none⟩)] W fun e w' => e = .returned (.bool (eqT y.name s)) ∧ Gr W w' := by
  obtain ⟨v, rfl, _⟩ := hx
  have hlt := World.block_lt_of_cell? W _ hb
  have hg := Gr.alloc W (.cells #[.string y.name, .int .i64 y.kind, v, .int .i64 y.low, .int .i64 y.high, .string y.schema, .string y.table, .string y.key] 56)
  have hb2 := (hg.below.cell (p := ⟨b, 0, none⟩) hlt).trans hb
  have hbx : ∀ (j : Nat) u, ([.string y.name, .int .i64 y.kind, v, .int .i64 y.low, .int .i64 y.high, .string y.schema, .string y.table, .string y.key])[j]? = some u → (W.alloc (.cells #[.string y.name, .int .i64 y.kind, v, .int .i64 y.low, .int .i64 y.high, .string y.schema, .string y.table, .string y.key] 56)).cell? ⟨W.heap.size, j, none⟩ = some u := fun j u hj => by
    rw [cell_of_row _ _ _ _ _ _ (heap_alloc_new W _)]
    simpa using hj
  have c0 := hbx 0 _ rfl
  clear hbx hlt hb
  cases hq : eqT y.name s with
  | true =>
    have e1 : (y.name.toList == s.toList) = true := hq
    clear hq
    go_enter Try.func132, Try.ntmps132
    go_wp2_with fail
    go_ret
    exact ⟨rfl, hg⟩
  | false =>
    have e1 : (y.name.toList == s.toList) = false := hq
    clear hq
    go_enter Try.func132, Try.ntmps132
    go_wp2_with fail
    go_ret
    exact ⟨rfl, hg⟩
theorem prog_rulplace_any (B : Nat) (a : Option Addr) (n c : Nat) (l : List Rul) (s : ByteArray) (w : World) (h : Lst w (· < B) (rulP w (· < B)) 8 (.slice a n c) l) (hB : B ≤ w.heap.size) :
    Calls Try.prog 97 #[.slice a n c, .string s] w fun e w' => e = .returned (.int .i64 (rulI l s)) ∧ Gr w w' := by
  have hg := Gr.alloc w (.cells #[.string s] 9)
  have h2 : Lst (w.alloc (.cells #[.string s] 9)) (· < B) (rulP (w.alloc (.cells #[.string s] 9)) (· < B)) 8 (.slice a n c) l :=
    h.keep (fun _ h => h) (hg.keeps fun j hj => Nat.lt_of_lt_of_le hj hB) fun x y _ hx => rul_stays.keep hx (fun _ h => h) (hg.keeps fun j hj => Nat.lt_of_lt_of_le hj hB)
  have hc : (w.alloc (.cells #[.string s] 9)).cell? ⟨w.heap.size, 0, none⟩ = some (.string s) := by
    rw [cell_of_row _ _ _ _ _ _ (heap_alloc_new w _)]; rfl
  have hlt : w.heap.size < (w.alloc (.cells #[.string s] 9)).heap.size := by simp
  have HC := Lib.hid (prog_idx_rul B a n c l 132 #[.pointer (some ⟨w.heap.size, 0, none⟩)] (fun y => eqT y.name s) _ h2 (by simp; omega) (enters_of Try.func132 (by kernel_rfl) rfl)
    fun W x y hW hx => prog_rulcl_any w.heap.size s x y (· < B) W ((hW.below.cell (p := ⟨w.heap.size, 0, none⟩) hlt).trans hc) hx)
  have HG := Lib.hid hg
  clear h h2 hc hlt hg
  go_enter Try.func97, Try.ntmps97
  go_wp2_with (go_at_call 129; refine HC.out.mono ?_; rintro e w' ⟨rfl, hb'⟩)
  go_ret
  exact ⟨rfl, HG.out.trans hb'⟩
end Go.Proofs.Ytkghkioghkapcaa
