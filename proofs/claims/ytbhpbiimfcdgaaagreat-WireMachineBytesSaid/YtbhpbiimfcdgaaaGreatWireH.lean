/-
  The document's examples, which the statements of layer 3 ask first: by contract.
-/
import Derived.Test.YtbhpbiimfcdgaaaGreatWireG1
import Derived.Test.YtbhpbiimfcdgaaaGreatWireCt
import Derived.Test.YtbhpbiimfcdgaaaGreatWireD1
namespace Go.Proofs.YtbhpbiimfcdgaaaGreat
open Go.RowKit
set_option linter.unusedVariables false

/-- A thing of noughts: its cells and its fields. -/
def zeroC : Sh → List Value
  | .num => [.int .i64 0]
  | .whole => [.int .i64 0]
  | .text => [.string ByteArray.empty]
  | .flag => [.bool false]
  | .two a b => zeroC a ++ zeroC b
  | .list _ => [.slice none 0 0]
def zeroT : Sh → List Tok
  | .num => [.num 0]
  | .whole => [.whole 0]
  | .text => [.text []]
  | .flag => [.flag false]
  | .two a b => zeroT a ++ zeroT b
  | .list _ => [.many 0]
theorem is_zero (w : World) (S : Nat → Prop) : ∀ sh : Sh, Is w S sh (zeroC sh) (zeroT sh) := by
  intro sh
  induction sh with
  | num => exact ⟨0, by omega, by omega, rfl, rfl⟩
  | whole => exact ⟨0, by omega, by omega, rfl, rfl⟩
  | text => exact ⟨ByteArray.empty, by decide, rfl, rfl⟩
  | flag => exact ⟨false, rfl, rfl⟩
  | two a b iha ihb => exact ⟨_, _, _, _, rfl, rfl, iha, ihb⟩
  | list e ih => exact ⟨none, 0, 0, [], rfl, Nat.le_refl _, Nat.zero_le _, rfl, .inl rfl, .inr ⟨[], by omega, rfl, rfl, by simp⟩⟩
theorem zero_fault : ∀ sh : Sh, firstF (zeroT sh) = 0 := by
  intro sh
  induction sh with
  | two a b iha ihb => exact firstF_zero.2 ⟨iha, ihb⟩
  | num | whole | text | flag | list => rfl
def awT : List Tok := [Tok.num 4] ++ ([Tok.num 0] ++ ([Tok.num 0] ++ (zeroT shCommand ++ ([Tok.num 0] ++ ([Tok.num 0] ++ [Tok.num 7])))))
def awC : List Value := [.int .i64 4] ++ ([.int .i64 0] ++ ([.int .i64 0] ++ (zeroC shCommand ++ ([.int .i64 0] ++ ([.int .i64 0] ++ [.int .i64 7])))))
theorem is_num (w : World) (S : Nat → Prop) (n : Int) (h1 : -9223372036854775808 ≤ n) (h2 : n < 9223372036854775808) : Is w S .num [.int .i64 n] [.num n] := ⟨n, h1, h2, rfl, rfl⟩
theorem aw_is (w : World) (S : Nat → Prop) : Is w S shOp awC awT :=
  ⟨_, _, _, _, rfl, rfl, is_num w S 4 (by omega) (by omega), _, _, _, _, rfl, rfl, is_num w S 0 (by omega) (by omega), _, _, _, _, rfl, rfl, is_num w S 0 (by omega) (by omega), _, _, _, _, rfl, rfl, is_zero w S shCommand,
    _, _, _, _, rfl, rfl, is_num w S 0 (by omega) (by omega), _, _, _, _, rfl, rfl, is_num w S 0 (by omega) (by omega), is_num w S 7 (by omega) (by omega)⟩
theorem aw_fault : firstF awT = 0 := by kernel_rfl
theorem aw_length : (bytesL awT).length = 97 := by kernel_rfl
theorem aw_0 : (bytesL awT)[0]? = some 4 := by kernel_rfl
theorem aw_93 : (bytesL awT)[93]? = some 7 := by kernel_rfl
theorem aw_room : Room [] awT := by
  have h : wtL awT ≤ 1000 := of_decide_eq_true (by kernel_rfl)
  unfold Room; simp only [List.length_nil]; omega
def awR : List Tok := [Tok.num 0] ++ ([Tok.num 0] ++ ([Tok.num (-1)] ++ (zeroT shEntry ++ ([Tok.num 0] ++ zeroT shSnapshot))))
def awRC : List Value := [.int .i64 0] ++ ([.int .i64 0] ++ ([.int .i64 (-1)] ++ (zeroC shEntry ++ ([.int .i64 0] ++ zeroC shSnapshot))))
theorem awr_is (w : World) (S : Nat → Prop) : Is w S shRecord awRC awR :=
  ⟨_, _, _, _, rfl, rfl, is_num w S 0 (by omega) (by omega), _, _, _, _, rfl, rfl, is_num w S 0 (by omega) (by omega), _, _, _, _, rfl, rfl, is_num w S (-1) (by omega) (by omega), _, _, _, _, rfl, rfl, is_zero w S shEntry,
    _, _, _, _, rfl, rfl, is_num w S 0 (by omega) (by omega), is_zero w S shSnapshot⟩
theorem awr_fault : firstF awR = 1 := by kernel_rfl
theorem awr_room : Room [] awR := by
  have h : wtL awR ≤ 1000 := of_decide_eq_true (by kernel_rfl)
  unfold Room; simp only [List.length_nil]; omega
/-- What the bytes of the example are read as. -/
theorem aw_back {w : World} {S : Nat → Prop} {ts : List Tok} {cs : List Value} (hp : parse shOp (bytesL awT) = some (ts, [])) (hI : Is w S shOp cs ts) : cs[0]? = some (.int .i64 4) ∧ cs[22]? = some (.int .i64 7) ∧ cs.length = 23 := by
  have h := parse_lay shOp awT [] (aw_is w S).fit aw_fault
  rw [List.append_nil, hp] at h
  simp only [Option.some.injEq, Prod.mk.injEq, and_true] at h
  subst h
  have hl := hI.size
  obtain ⟨_, _, _, _, rfl, h1, ⟨n0, _, _, rfl, rfl⟩, _, _, _, _, rfl, rfl, ⟨n1, _, _, rfl, rfl⟩, _, _, _, _, rfl, rfl, ⟨n2, _, _, rfl, rfl⟩, cc, _, tc, _, rfl, rfl, hC, _, _, _, _, rfl, rfl, ⟨n4, _, _, rfl, rfl⟩, _, _, _, _, rfl, rfl, ⟨n5, _, _, rfl, rfl⟩, ⟨n6, _, _, rfl, rfl⟩⟩ := hI
  have hcl : cc.length = 17 := hC.size
  have h2 := congrArg List.head? h1
  have h3 := congrArg List.getLast? h1
  have e4 : n0 = 4 := by
    have : awT.head? = some (Tok.num 4) := by kernel_rfl
    rw [this] at h2; simpa using h2.symm
  have e7 : n6 = 7 := by
    have : awT.getLast? = some (Tok.num 7) := by kernel_rfl
    rw [this] at h3
    simp only [List.singleton_append, List.getLast?_cons, List.getLast?_append] at h3
    simpa using h3.symm
  subst e4; subst e7
  refine ⟨rfl, ?_, hl⟩
  simp only [List.singleton_append]
  rw [List.getElem?_cons_succ, List.getElem?_cons_succ, List.getElem?_cons_succ, List.getElem?_append_right (by omega), hcl]
  rfl

set_option maxRecDepth 100000 in
set_option maxHeartbeats 4000000 in
theorem awake_any (w : World) : Calls Tryz.prog 10 #[] w fun e w' => e = .returned (.bool true) ∧ Below w.heap.size w w' := by
  have hi : (Tryz.prog.info? 72).map (·.size) = some 23 := by kernel_rfl
  have HI := Lib.hid hi; clear hi
  go_enter Tryz.func10, Tryz.ntmps10
  go_wp2_with fail
  refine (Put_Op awC awT w (aw_is w _) aw_room).mono ?_
  rintro e w1 ⟨hb1, ⟨F1, v, rfl, hown⟩ | ⟨F1, rfl⟩⟩
  case inr => exact absurd aw_fault F1
  rw [aw_length] at hown
  obtain ⟨a, cap, rfl, hrd, hlen⟩ := Rd.own hown
  have hcap : 97 ≤ cap ∧ cap ≤ maxLen := by
    rcases hown.2 with ⟨h, h0⟩ | ⟨g, cp, cur, h, _, _, h1, h2, _⟩
    · cases h0
    · simp only [Value.slice.injEq] at h; obtain ⟨_, _, rfl⟩ := h; exact ⟨h1, h2⟩
  obtain ⟨g, o, rfl, hg, hcs⟩ := hrd.pos (by omega)
  have k0 : w1.cell? ⟨g, o, none⟩ = some (.int .u8 4) := by
    have h := hcs 0 (by omega)
    have e : (cb (bytesL awT))[0]? = some (.int .u8 4) := by kernel_rfl
    rw [Nat.add_zero] at h; rw [h, ← e]; exact (List.getElem?_eq_getElem _).symm
  have k93 : w1.cell? ⟨g, o + 93, none⟩ = some (.int .u8 7) := by
    have h := hcs 93 (by omega)
    have e : (cb (bytesL awT))[93]? = some (.int .u8 7) := by kernel_rfl
    rw [h, ← e]; exact (List.getElem?_eq_getElem _).symm
  have hrd := Lib.hid hrd
  clear hown hcs hlen
  go_wp2_with fail
  refine (Get_Op (some ⟨g, o, none⟩) 97 cap (bytesL awT) w1 aw_length hrd.out hcap.1 hcap.2).mono ?_
  rintro e w2 ⟨hb2, ⟨ts, cs, P, rfl, I⟩ | ⟨P, rfl⟩⟩
  case inr =>
    have h := parse_lay shOp awT [] (aw_is w (fun _ => True)).fit aw_fault
    rw [List.append_nil] at h
    exact absurd h (P _)
  obtain ⟨q0, q22, ql⟩ := aw_back P I
  have h1 := Lib.hid (all_oneCell_toArray I.oneCell)
  have HI2 : Hid ((Tryz.prog.info? 72).map (·.size) = some cs.toArray.size) := Lib.hid (by rw [HI.out, List.size_toArray, ql])
  have HS2 : Hid ((#[.int .i64 0, .int .i64 0, .int .i64 0, .int .i64 0, .string ByteArray.empty, .string ByteArray.empty, .string ByteArray.empty, .string ByteArray.empty, .string ByteArray.empty, .slice none 0 0, .string ByteArray.empty, .int .i64 0, .slice none 0 0, .int .i64 0, .int .i64 0, .string ByteArray.empty, .string ByteArray.empty, .string ByteArray.empty, .int .i64 0, .bool false, .int .i64 0, .int .i64 0, .int .i64 0] : Array Value).size = cs.toArray.size) := Lib.hid (show (23 : Nat) = cs.toArray.size by rw [List.size_toArray, ql])
  have h1z : (#[.int .i64 0, .int .i64 0, .int .i64 0, .int .i64 0, .string ByteArray.empty, .string ByteArray.empty, .string ByteArray.empty, .string ByteArray.empty, .string ByteArray.empty, .slice none 0 0, .string ByteArray.empty, .int .i64 0, .slice none 0 0, .int .i64 0, .int .i64 0, .string ByteArray.empty, .string ByteArray.empty, .string ByteArray.empty, .int .i64 0, .bool false, .int .i64 0, .int .i64 0, .int .i64 0] : Array Value).all (·.oneCell') = true := by kernel_rfl
  have H1Z := Lib.hid h1z; clear h1z
  have R2 := Lib.hid (heap_alloc_new w2 (.cells cs.toArray 72))
  have q0' : cs.toArray[0]? = some (.int .i64 4) := by simpa using q0
  have q22' : cs.toArray[22]? = some (.int .i64 7) := by simpa using q22
  have Q0 := Lib.hid q0'
  have Q22 := Lib.hid q22'
  have P := Lib.hid P
  clear q0 q22 ql q0' q22' I
  go_wp2_with (refine wpList_store_last w2 rfl 72 _ _ rfl 72 #[.int .i64 0, .int .i64 0, .int .i64 0, .int .i64 0, .string ByteArray.empty, .string ByteArray.empty, .string ByteArray.empty, .string ByteArray.empty, .string ByteArray.empty, .slice none 0 0, .string ByteArray.empty, .int .i64 0, .slice none 0 0, .int .i64 0, .int .i64 0, .string ByteArray.empty, .string ByteArray.empty, .string ByteArray.empty, .int .i64 0, .bool false, .int .i64 0, .int .i64 0, .int .i64 0] cs.toArray w2.heap.size rfl rfl rfl HI2.out HS2.out h1.out ?_)
  refine (Get_Op none 0 0 [] _ rfl (.inl rfl) (Nat.le_refl _) (Nat.zero_le _)).mono ?_
  rintro e w3 ⟨hb3, ⟨ts3, cs3, P3, rfl, I3⟩ | ⟨P3, rfl⟩⟩
  case inl => simp [shOp, parse, pNum] at P3
  have R3 := Lib.hid (((Below.refl w3.heap.size w3).alloc (Nat.le_refl _) (.cells #[.int .i64 0, .int .i64 0, .int .i64 0, .int .i64 0, .string ByteArray.empty, .string ByteArray.empty, .string ByteArray.empty, .string ByteArray.empty, .string ByteArray.empty, .slice none 0 0, .string ByteArray.empty, .int .i64 0, .slice none 0 0, .int .i64 0, .int .i64 0, .string ByteArray.empty, .string ByteArray.empty, .string ByteArray.empty, .int .i64 0, .bool false, .int .i64 0, .int .i64 0, .int .i64 0] 72)).block w2.heap.size (by have := hb3.size; simp at this; omega) |>.trans ((hb3.block w2.heap.size (by simp)).trans R2.out))
  go_wp2_with (refine wpList_store_last w3 rfl 72 _ _ rfl 72 #[.int .i64 0, .int .i64 0, .int .i64 0, .int .i64 0, .string ByteArray.empty, .string ByteArray.empty, .string ByteArray.empty, .string ByteArray.empty, .string ByteArray.empty, .slice none 0 0, .string ByteArray.empty, .int .i64 0, .slice none 0 0, .int .i64 0, .int .i64 0, .string ByteArray.empty, .string ByteArray.empty, .string ByteArray.empty, .int .i64 0, .bool false, .int .i64 0, .int .i64 0, .int .i64 0] #[.int .i64 0, .int .i64 0, .int .i64 0, .int .i64 0, .string ByteArray.empty, .string ByteArray.empty, .string ByteArray.empty, .string ByteArray.empty, .string ByteArray.empty, .slice none 0 0, .string ByteArray.empty, .int .i64 0, .slice none 0 0, .int .i64 0, .int .i64 0, .string ByteArray.empty, .string ByteArray.empty, .string ByteArray.empty, .int .i64 0, .bool false, .int .i64 0, .int .i64 0, .int .i64 0] w3.heap.size rfl rfl rfl HI.out rfl H1Z.out ?_)
  refine (Put_Record awRC awR _ (awr_is _ _) awr_room).mono ?_
  rintro e w4 ⟨hb4, ⟨F4, v4, rfl, hown4⟩ | ⟨F4, rfl⟩⟩
  case inl => rw [awr_fault] at F4; cases F4
  rw [awr_fault]
  have R4 := (hb4.block w2.heap.size (by have := hb3.size; simp at this ⊢; omega)).trans R3.out
  have r0 := box_cell R4 0 Q0.out
  have r22 := box_cell R4 22 Q22.out
  have R4' := Lib.hid R4; clear R4
  go_wp2_with fail
  go_ret
  refine ⟨rfl, hb1.trans ?_⟩
  have a2 : Below w1.heap.size w1 (w2.alloc (.cells cs.toArray 72)) := hb2.alloc hb2.size _
  have a3 : Below w1.heap.size w1 (w3.alloc (.cells #[.int .i64 0, .int .i64 0, .int .i64 0, .int .i64 0, .string ByteArray.empty, .string ByteArray.empty, .string ByteArray.empty, .string ByteArray.empty, .string ByteArray.empty, .slice none 0 0, .string ByteArray.empty, .int .i64 0, .slice none 0 0, .int .i64 0, .int .i64 0, .string ByteArray.empty, .string ByteArray.empty, .string ByteArray.empty, .int .i64 0, .bool false, .int .i64 0, .int .i64 0, .int .i64 0] 72)) := (a2.trans (hb3.mono a2.size)).alloc (by have := a2.size; have := hb3.size; omega) _
  exact (a3.trans (hb4.mono a3.size)).mono hb1.size
end Go.Proofs.YtbhpbiimfcdgaaaGreat
