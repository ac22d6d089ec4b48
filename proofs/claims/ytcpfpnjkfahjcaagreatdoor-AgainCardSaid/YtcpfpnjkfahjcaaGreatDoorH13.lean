import Derived.Test.YtcpfpnjkfahjcaaGreatDoorH11
import Derived.Test.YtcpfpnjkfahjcaaGreatDoorH12
import Derived.Test.YtcpfpnjkfahjcaaGreatDoorH01
import Derived.Test.YtcpfpnjkfahjcaaGreatDoorH09
import Derived.Test.YtcpfpnjkfahjcaaGreatDoorH02
set_option linter.unusedSimpArgs false
set_option linter.unusedVariables false
namespace Go.Proofs.YtcpfpnjkfahjcaaGreatDoor
open Go.RowKit

/-- A builder that holds these bytes; nothing of it lies below it. -/
def BdAt (w : World) (b : Nat) (l : List UInt8) : Prop := Lib.IsBuilder 67 5 b b (Lib.byteCells l) w
theorem BdAt.lt {w : World} {b : Nat} {l : List UInt8} (h : BdAt w b l) : b < w.heap.size := by
  rcases h with h | h <;> obtain ⟨_, v, hb, _⟩ := h <;> exact lt_of_heap hb
/-- What a call leaves that writes. -/
def PrOut (b : Nat) (l new : List UInt8) (w : World) (e : Ending) (w' : World) : Prop := e = .returned (.tuple #[]) ∧ BdAt w' b (l ++ new) ∧ Below b w w'

theorem bytes_snoc (l : List UInt8) (u : UInt8) : Lib.byteCells (l ++ [u]) = Lib.byteCells l ++ [.int .u8 u.toNat] := by simp [Lib.byteCells]
theorem bytes_app (l : List UInt8) (s : ByteArray) : Lib.byteCells (l ++ s.data.toList) = Lib.byteCells l ++ Lib.strCells s := by simp [Lib.byteCells, Lib.strCells]
theorem wb_any (b : Nat) (l : List UInt8) (u : UInt8) (w : World) (h : BdAt w b l) (hl : l.length ≤ 100000000) :
    Calls Tryz.prog 24 #[.pointer (some ⟨b, 0, none⟩), .int .u8 (u.toNat : Nat)] w fun e w' => e = .returned .nilIface ∧ BdAt w' b (l ++ [u]) ∧ Below b w w' :=
  (Any.Builder_WriteByte lays167 extra_renB b b (Lib.byteCells l) (u.toNat : Nat) w h (by simp [Lib.byteCells]; omega) (Nat.le_of_lt h.lt)).mono fun e w' q => ⟨q.1, Or.inr (by rw [bytes_snoc]; exact q.2.1), q.2.2⟩
theorem ws_any (b : Nat) (l : List UInt8) (s : ByteArray) (w : World) (h : BdAt w b l) (hl : l.length ≤ 100000000) (hs : s.size ≤ 100000000) :
    Calls Tryz.prog 36 #[.pointer (some ⟨b, 0, none⟩), .string s] w fun e w' => e = .returned (.tuple #[.int .i64 s.size, .nilIface]) ∧ BdAt w' b (l ++ s.data.toList) ∧ Below b w w' :=
  (Any.Builder_WriteString lays166 extra_renB b b (Lib.byteCells l) s w h (by simp [Lib.byteCells]; omega) (Nat.le_of_lt h.lt)).mono fun e w' q => ⟨q.1, Or.inr (by rw [bytes_app]; exact q.2.1), q.2.2⟩
theorem bstr_any (b : Nat) (l : List UInt8) (w : World) (h : BdAt w b l) :
    Calls Tryz.prog 18 #[.pointer (some ⟨b, 0, none⟩)] w fun e w' => e = .returned (.string (str l)) ∧ Below b w w' :=
  Any.Builder_String_any lays169 extra_lays169_ren b b l w h (Nat.le_of_lt h.lt)
theorem itoa_any (i : Nat) (hi : i < 100) (w : World) :
    Calls Tryz.prog 63 #[.int .i64 i] w fun e w' => e = .returned (.string ⟨(Lib.decDigits i).toArray⟩) ∧ w' = w := Any.strconv_Itoa_small lays171 i hi w
theorem dec_all : ((List.range 100).all fun n => Lib.decDigits n == Sp.digs (n : Int)) = true := by kernel_rfl
theorem dec_is {n : Nat} (h : n < 100) : Lib.decDigits n = Sp.digs (n : Int) := by
  have q := dec_all
  rw [List.all_eq_true] at q
  simpa using q n (List.mem_range.2 h)

set_option maxHeartbeats 400000 in
theorem prByte_n (b : Nat) (l : List UInt8) (sg : Bool) (w : World) (h : BdAt w b l) (hl : l.length ≤ 10000000) :
    Calls Tryz.prog 23 #[.pointer (some ⟨b, 0, none⟩), .int .u8 10, .string (sgL sg)] w (PrOut b l (Sp.shown 10 sg) w) := by
  have hh : Hid (BdAt w b l) := h
  have HR : Hid (Sp.shown 10 sg = [92, 110]) := by show _ = _; unfold Sp.shown; rw [if_pos rfl]
  clear h
  go_enter Tryz.func23, Tryz.ntmps23
  go_wp2_with fail
  refine (ws_any b l _ _ (by exact hh.out) (by omega) (by decide)).mono ?_
  rintro e w1 ⟨rfl, hb1, hu1⟩
  go_wp2_with fail
  go_end0
  exact ⟨rfl, by rw [HR.out]; exact hb1, hu1⟩
set_option maxHeartbeats 400000 in
theorem prByte_t (b : Nat) (l : List UInt8) (sg : Bool) (w : World) (h : BdAt w b l) (hl : l.length ≤ 10000000) :
    Calls Tryz.prog 23 #[.pointer (some ⟨b, 0, none⟩), .int .u8 9, .string (sgL sg)] w (PrOut b l (Sp.shown 9 sg) w) := by
  have hh : Hid (BdAt w b l) := h
  have HR : Hid (Sp.shown 9 sg = [92, 116]) := by show _ = _; unfold Sp.shown; rw [if_neg (by decide), if_pos rfl]
  clear h
  go_enter Tryz.func23, Tryz.ntmps23
  go_wp2_with fail
  refine (ws_any b l _ _ (by exact hh.out) (by omega) (by decide)).mono ?_
  rintro e w1 ⟨rfl, hb1, hu1⟩
  go_wp2_with fail
  go_end0
  exact ⟨rfl, by rw [HR.out]; exact hb1, hu1⟩
def hx16 : ByteArray := ⟨#[48, 49, 50, 51, 52, 53, 54, 55, 56, 57, 97, 98, 99, 100, 101, 102]⟩
theorem hx_is (n : Nat) (h : n < hx16.size) : hx16[n] = Sp.hexB (n : Int) := by
  have h' : n < 16 := h
  rcases (by omega : n = 0 ∨ n = 1 ∨ n = 2 ∨ n = 3 ∨ n = 4 ∨ n = 5 ∨ n = 6 ∨ n = 7 ∨ n = 8 ∨ n = 9 ∨ n = 10 ∨ n = 11 ∨ n = 12 ∨ n = 13 ∨ n = 14 ∨ n = 15) with rfl | rfl | rfl | rfl | rfl | rfl | rfl | rfl | rfl | rfl | rfl | rfl | rfl | rfl | rfl | rfl <;> rfl
theorem hx_at {c : Int} (h0 : 0 ≤ c) (h : c.toNat < hx16.size) : hx16[c.toNat] = Sp.hexB c := by
  rw [hx_is, show ((c.toNat : Nat) : Int) = c by omega]
theorem and_all : ((List.range 256).all fun n => bits BinOp.and IntKind.u8 (n : Int) 15 == (n : Int) % 16) = true := by kernel_rfl
theorem and_15 {c : Int} (h0 : 0 ≤ c) (h1 : c ≤ 255) : bits BinOp.and IntKind.u8 c 15 = c % 16 := by
  obtain ⟨n, rfl⟩ := Int.eq_ofNat_of_zero_le h0
  have h := and_all
  rw [List.all_eq_true] at h
  simpa using h n (List.mem_range.2 (by omega))

set_option maxHeartbeats 400000 in
theorem prByte_x (b : Nat) (l : List UInt8) (sg : Bool) (c : Int) (w : World) (h : BdAt w b l) (hl : l.length ≤ 10000000) (h0 : 0 ≤ c) (h1 : c ≤ 255) (hn : c ≠ 10) (ht : c ≠ 9) (hx : c < 33 ∨ 126 < c) :
    Calls Tryz.prog 23 #[.pointer (some ⟨b, 0, none⟩), .int .u8 c, .string (sgL sg)] w (PrOut b l (Sp.shown c sg) w) := by
  have hh : Hid (BdAt w b l) := h
  have HR : Hid (Sp.shown c sg = [92, 120, Sp.hexB (c / 16), Sp.hexB (c % 16)]) := by show _ = _; unfold Sp.shown; rw [if_neg hn, if_neg ht, if_pos hx]
  have hn' : (c == 10) = false := by simpa using hn
  have ht' : (c == 9) = false := by simpa using ht
  have ha : bits BinOp.and IntKind.u8 c 15 = c % 16 := and_15 h0 h1
  clear h hn ht
  go_enter Tryz.func23, Tryz.ntmps23
  go_wp2_with fail
  all_goals
    refine (ws_any b l _ _ (by exact hh.out) (by omega) (by decide)).mono ?_
    rintro e w1 ⟨rfl, hb1, hu1⟩
    have HB1 : Hid (BdAt w1 b (l ++ [92, 120])) := hb1
    have HU1 : Hid (Below b w w1) := hu1
    clear hb1 hu1
    go_wp2_with fail
    refine (wb_any b (l ++ [92, 120]) _ _ (by exact HB1.out) (by simp; omega)).mono ?_
    rintro e w2 ⟨rfl, hb2, hu2⟩
    have HB2 : Hid (BdAt w2 b (l ++ [92, 120] ++ [Sp.hexB (c / 16)])) := by rw [← hx_at (c := c / 16) (by omega) (show _ < 16 by omega)]; exact hb2
    have HU2 : Hid (Below b w w2) := HU1.out.trans hu2
    clear hb2 hu2
    go_wp2_with fail
    refine (wb_any b (l ++ [92, 120] ++ [Sp.hexB (c / 16)]) _ _ (by exact HB2.out) (by simp; omega)).mono ?_
    rintro e w3 ⟨rfl, hb3, hu3⟩
    have HB3 : Hid (BdAt w3 b (l ++ [92, 120] ++ [Sp.hexB (c / 16)] ++ [Sp.hexB (c % 16)])) := by rw [← hx_at (c := c % 16) (by omega) (show _ < 16 by omega)]; exact hb3
    have HU3 : Hid (Below b w w3) := HU2.out.trans hu3
    clear hb3 hu3
    go_wp2_with fail
    go_end0
    exact ⟨rfl, by rw [HR.out]; simpa using HB3.out, HU3.out⟩

set_option maxHeartbeats 400000 in
theorem prByte_s (b : Nat) (l : List UInt8) (sg : Bool) (c : Int) (w : World) (h : BdAt w b l) (hl : l.length ≤ 10000000) (h0 : 33 ≤ c) (h1 : c ≤ 126) (hs : isSign sg c = true) :
    Calls Tryz.prog 23 #[.pointer (some ⟨b, 0, none⟩), .int .u8 c, .string (sgL sg)] w (PrOut b l (Sp.shown c sg) w) := by
  have hh : Hid (BdAt w b l) := h
  have HR : Hid (Sp.shown c sg = [92, Sp.u8 c]) := by show _ = _; unfold Sp.shown; rw [if_neg (by omega), if_neg (by omega), if_neg (by omega), if_pos (show (if sg = true then Sp.listSign c else Sp.sign c) = true from hs)]
  have hix : 0 ≤ ixOf sg c := by have := ix_is (l := sg) (c := c) (by omega) (by omega); rw [hs] at this; simp at this; omega
  have HC : Hid (((Sp.u8 c).toNat : Int) = c) := by show ((UInt8.ofNat c.toNat).toNat : Int) = c; rw [UInt8.toNat_ofNat']; omega
  clear h hs
  obtain ⟨g, HG⟩ : ∃ g, Hid (g = sgL sg) := ⟨sgL sg, (rfl : sgL sg = sgL sg)⟩
  rw [← HG.out]
  go_enter Tryz.func23, Tryz.ntmps23
  go_wp2_with (go_at_call 37; rw [HG.out]; refine (ix_any sg _ _).mono ?_; rintro e w0 ⟨rfl, n0, rfl⟩)
  refine (wb_any b l 92 _ (by exact hh.out) (by omega)).mono ?_
  rintro e w1 ⟨rfl, hb1, hu1⟩
  have HB1 : Hid (BdAt w1 b (l ++ [92])) := hb1
  have HU1 : Hid (Below b w w1) := ⟨hu1.os, hu1.tape, hu1.output, hu1.size, hu1.block⟩
  clear hb1 hu1
  go_wp2_with fail
  rw [show (Value.int .u8 c) = .int .u8 ((Sp.u8 c).toNat : Int) from int_eq HC.out.symm]
  refine (wb_any b (l ++ [92]) (Sp.u8 c) _ (by exact HB1.out) (by simp; omega)).mono ?_
  rintro e w2 ⟨rfl, hb2, hu2⟩
  go_wp2_with fail
  go_end0
  exact ⟨rfl, by rw [HR.out]; simpa using hb2, HU1.out.trans hu2⟩

set_option maxHeartbeats 400000 in
theorem prByte_b (b : Nat) (l : List UInt8) (sg : Bool) (c : Int) (w : World) (h : BdAt w b l) (hl : l.length ≤ 10000000) (h0 : 33 ≤ c) (h1 : c ≤ 126) (hs : isSign sg c = false) :
    Calls Tryz.prog 23 #[.pointer (some ⟨b, 0, none⟩), .int .u8 c, .string (sgL sg)] w (PrOut b l (Sp.shown c sg) w) := by
  have hh : Hid (BdAt w b l) := h
  have HR : Hid (Sp.shown c sg = [Sp.u8 c]) := by show _ = _; unfold Sp.shown; rw [if_neg (by omega), if_neg (by omega), if_neg (by omega), if_neg (by show ¬ isSign sg c = true; rw [hs]; simp)]
  have hix : ¬ 0 ≤ ixOf sg c := by have := ix_is (l := sg) (c := c) (by omega) (by omega); rw [hs] at this; simp at this; omega
  have HC : Hid (((Sp.u8 c).toNat : Int) = c) := by show ((UInt8.ofNat c.toNat).toNat : Int) = c; rw [UInt8.toNat_ofNat']; omega
  clear h hs
  obtain ⟨g, HG⟩ : ∃ g, Hid (g = sgL sg) := ⟨sgL sg, (rfl : sgL sg = sgL sg)⟩
  rw [← HG.out]
  go_enter Tryz.func23, Tryz.ntmps23
  go_wp2_with (go_at_call 37; rw [HG.out]; refine (ix_any sg _ _).mono ?_; rintro e w0 ⟨rfl, n0, rfl⟩)
  rw [show (Value.int .u8 c) = .int .u8 ((Sp.u8 c).toNat : Int) from int_eq HC.out.symm]
  refine (wb_any b l (Sp.u8 c) _ (by exact hh.out) (by omega)).mono ?_
  rintro e w2 ⟨rfl, hb2, hu2⟩
  have HU1 : Hid (Below b w w2) := ⟨hu2.os, hu2.tape, hu2.output, hu2.size, hu2.block⟩
  go_wp2_with fail
  go_end0
  exact ⟨rfl, by rw [HR.out]; exact hb2, HU1.out⟩

theorem prByte_any (b : Nat) (l : List UInt8) (sg : Bool) (c : Int) (w : World) (h : BdAt w b l) (hl : l.length ≤ 10000000) (h0 : 0 ≤ c) (h1 : c ≤ 255) :
    Calls Tryz.prog 23 #[.pointer (some ⟨b, 0, none⟩), .int .u8 c, .string (sgL sg)] w (PrOut b l (Sp.shown c sg) w) := by
  by_cases hn : c = 10
  · subst hn; exact prByte_n b l sg w h hl
  by_cases ht : c = 9
  · subst ht; exact prByte_t b l sg w h hl
  by_cases hx : c < 33 ∨ 126 < c
  · exact prByte_x b l sg c w h hl h0 h1 hn ht hx
  cases hs : isSign sg c with
  | true => exact prByte_s b l sg c w h hl (by omega) (by omega) hs
  | false => exact prByte_b b l sg c w h hl (by omega) (by omega) hs
end Go.Proofs.YtcpfpnjkfahjcaaGreatDoor

set_option linter.unusedSimpArgs false
set_option linter.unusedVariables false
namespace Go.Proofs.YtcpfpnjkfahjcaaGreatDoor
open Go.RowKit

theorem runLast_stop (f : Nat → Bool) (n c : Nat) (h : ¬ (c < 255 ∧ f (c + 1) = true)) : Sp.runLast f n c = c := by
  cases n with
  | zero => rfl
  | succ n => unfold Sp.runLast; rw [if_neg h]

structure PRunInv (f : Nat → Bool) (c : Nat) (w : World) (gn : Nat) (v : Value) (wr : World) : Prop where
  st : ∃ cc : Nat, v = .int .i64 cc ∧ wr = w ∧ cc ≤ 255 ∧ 255 ≤ gn + cc ∧ Sp.runLast f 256 c = Sp.runLast f (gn + 1) cc

set_option maxHeartbeats 800000 in
theorem prRun_any (p o : Nat) (f : Nat → Bool) (c : Nat) (w : World) (h : SetIn w p o f) (hc : c < 256) :
    Calls Tryz.prog 40 #[.pointer (some ⟨p, o, none⟩), .int .i64 c] w fun e w' => e = .returned (.int .i64 (Sp.runLast f 256 c)) ∧ w' = w := by
  have HS : Hid (SetIn w p o f) := h
  clear h
  go_enter Tryz.func40, Tryz.ntmps40
  go_wp2_with fail
  go_loopg [1] 255 (fun gn v wr => PRunInv f c w gn v wr)
  case atStart => exact ⟨c, rfl, rfl, by omega, by omega, rfl⟩
  case round =>
    obtain ⟨cc, rfl, rfl, hcc, hgn, heq⟩ := hrel.st
    have HQ : Hid (Sp.runLast f 256 c = Sp.runLast f (gk + 1) cc) := heq
    clear heq
    by_cases hlt : cc < 255
    · cases hf : f (cc + 1) with
      | true =>
        have HF : Hid (f (cc + 1) = true) := hf
        obtain ⟨fuel, rfl⟩ : ∃ n, gk = n + 1 := ⟨gk - 1, by omega⟩
        have HR : Hid (Sp.runLast f 256 c = Sp.runLast f (fuel + 1) (cc + 1)) := by show _ = _; rw [HQ.out, Sp.runLast, if_pos ⟨hlt, hf⟩]
        clear hf
        have hlt' : (cc : Int) < 255 := by omega
        go_wp2_with fail
        refine (tHas_v p o f (cc + 1) true _ (by exact HS.out) (by omega) HF.out).mono ?_
        rintro e w1 ⟨rfl, hw1⟩
        rw [hw1]
        clear hw1 w1
        go_wp2_with fail
        go_roundg fuel
        case measure => omega
        case rel => exact ⟨cc + 1, int_eq (by omega), rfl, by omega, by omega, HR.out⟩
      | false =>
        have HF : Hid (f (cc + 1) = false) := hf
        have HR : Hid (Sp.runLast f 256 c = cc) := by show _ = _; rw [HQ.out]; exact runLast_stop f _ cc (fun q => by rw [hf] at q; exact absurd q.2 (by simp))
        clear hf
        have hlt' : (cc : Int) < 255 := by omega
        go_wp2_with fail
        refine (tHas_v p o f (cc + 1) false _ (by exact HS.out) (by omega) HF.out).mono ?_
        rintro e w1 ⟨rfl, hw1⟩
        rw [hw1]
        clear hw1 w1
        go_wp2_with fail
        go_ret
        exact ⟨ret_int (by rw [HR.out]), rfl⟩
    · have HR : Hid (Sp.runLast f 256 c = cc) := by show _ = _; rw [HQ.out]; exact runLast_stop f _ cc (fun q => hlt q.1)
      have hlt' : ¬ (cc : Int) < 255 := by omega
      go_wp2_with fail
      go_ret
      exact ⟨ret_int (by rw [HR.out]), rfl⟩

set_option maxHeartbeats 800000 in
theorem prItem_any (b : Nat) (l : List UInt8) (c d : Nat) (w : World) (h : BdAt w b l) (hl : l.length ≤ 9000000) (hcd : c ≤ d) (hd : d ≤ 255) :
    Calls Tryz.prog 41 #[.pointer (some ⟨b, 0, none⟩), .int .u8 c, .int .u8 d] w (PrOut b l (Sp.piece c d) w) := by
  have hh : Hid (BdAt w b l) := h
  clear h
  have hs1 := Sp.shown_le (c : Int) true
  have hs2 := Sp.shown_le (d : Int) true
  by_cases e1 : d = c
  · subst e1
    have HR : Hid (Sp.piece d d = Sp.shown d true) := by show _ = _; unfold Sp.piece; rw [if_pos rfl]
    go_enter Tryz.func41, Tryz.ntmps41
    go_wp2_with fail
    refine (prByte_any b l true d _ (by exact hh.out) (by omega) (by omega) (by omega)).mono ?_
    rintro e w1 ⟨rfl, hb1, hu1⟩
    go_wp2_with fail
    go_end0
    exact ⟨rfl, by rw [HR.out]; exact hb1, hu1⟩
  · have hne : ((c : Int) == (d : Int)) = false := by simp; omega
    by_cases e2 : d = c + 1
    · have HR : Hid (Sp.piece c d = Sp.shown c true ++ Sp.shown d true) := by show _ = _; unfold Sp.piece; rw [if_neg e1, if_pos e2]
      have hsub : ¬ (1 : Int) < (d : Int) - c := by omega
      clear e1 e2
      go_enter Tryz.func41, Tryz.ntmps41
      go_wp2_with fail
      refine (prByte_any b l true c _ (by exact hh.out) (by omega) (by omega) (by omega)).mono ?_
      rintro e w1 ⟨rfl, hb1, hu1⟩
      have HB1 : Hid (BdAt w1 b (l ++ Sp.shown c true)) := hb1
      have HU1 : Hid (Below b w w1) := hu1
      clear hb1 hu1
      go_wp2_with fail
      refine (prByte_any b (l ++ Sp.shown c true) true d _ (by exact HB1.out) (by simp; omega) (by omega) (by omega)).mono ?_
      rintro e w2 ⟨rfl, hb2, hu2⟩
      go_wp2_with fail
      go_end0
      exact ⟨rfl, by rw [HR.out, ← List.append_assoc]; exact hb2, HU1.out.trans hu2⟩
    · have HR : Hid (Sp.piece c d = Sp.shown c true ++ [45] ++ Sp.shown d true) := by show _ = _; unfold Sp.piece; rw [if_neg e1, if_neg e2]
      have hsub : (1 : Int) < (d : Int) - c := by omega
      clear e1 e2
      go_enter Tryz.func41, Tryz.ntmps41
      go_wp2_with fail
      refine (prByte_any b l true c _ (by exact hh.out) (by omega) (by omega) (by omega)).mono ?_
      rintro e w1 ⟨rfl, hb1, hu1⟩
      have HB1 : Hid (BdAt w1 b (l ++ Sp.shown c true)) := hb1
      have HU1 : Hid (Below b w w1) := hu1
      clear hb1 hu1
      go_wp2_with fail
      refine (wb_any b (l ++ Sp.shown c true) 45 _ (by exact HB1.out) (by simp; omega)).mono ?_
      rintro e w2 ⟨rfl, hb2, hu2⟩
      have HB2 : Hid (BdAt w2 b (l ++ Sp.shown c true ++ [45])) := hb2
      have HU2 : Hid (Below b w w2) := HU1.out.trans hu2
      clear hb2 hu2
      go_wp2_with fail
      refine (prByte_any b (l ++ Sp.shown c true ++ [45]) true d _ (by exact HB2.out) (by simp; omega) (by omega) (by omega)).mono ?_
      rintro e w3 ⟨rfl, hb3, hu3⟩
      go_wp2_with fail
      go_end0
      exact ⟨rfl, by rw [HR.out]; simpa using hb3, HU2.out.trans hu3⟩
end Go.Proofs.YtcpfpnjkfahjcaaGreatDoor

set_option linter.unusedSimpArgs false
set_option linter.unusedVariables false
namespace Go.Proofs.YtcpfpnjkfahjcaaGreatDoor
open Go.RowKit

theorem cell_same {w w' : World} {p : Nat} (h : w'.heap[p]? = w.heap[p]?) (o : Nat) : w'.cell? ⟨p, o, none⟩ = w.cell? ⟨p, o, none⟩ := by simp [World.cell?, h]
theorem SetIn.below {w w' : World} {b p o : Nat} {f : Nat → Bool} (h : SetIn w p o f) (hb : Below b w w') (hp : p < b) : SetIn w' p o f :=
  ⟨(cell_same (hb.block p hp) _).trans h.c0, (cell_same (hb.block p hp) _).trans h.c1, (cell_same (hb.block p hp) _).trans h.c2, (cell_same (hb.block p hp) _).trans h.c3⟩
theorem BdAt.drewN {w : World} {b : Nat} {l : List UInt8} (h : BdAt w b l) (n : Nat) : BdAt (w.drewN n) b l := h

structure PListdInv (b p : Nat) (f : Nat → Bool) (l : List UInt8) (w : World) (gn : Nat) (v : Value) (wr : World) : Prop where
  st : ∃ (cc : Nat) (cur : List UInt8), v = .int .i64 cc ∧ cc ≤ 256 ∧ 257 ≤ gn + cc ∧ BdAt wr b cur ∧ Below b w wr ∧ l ++ Sp.listed f = cur ++ Sp.listedFrom f gn cc ∧ cur.length ≤ l.length + 9 * cc

set_option maxHeartbeats 2000000 in
theorem prList_core (b : Nat) (l : List UInt8) (p : Nat) (f : Nat → Bool) (nt : Bool) (w : World) (h : BdAt w b l) (hl : l.length ≤ 8000000) (hp : p < b) (hs : SetIn w p 4 f) (h8 : w.cell? ⟨p, 8, none⟩ = some (.bool nt)) :
    Calls Tryz.prog 25 #[.pointer (some ⟨b, 0, none⟩), .pointer (some ⟨p, 0, none⟩)] w (PrOut b l ((if nt then [91, 94] else [91]) ++ Sp.listed f ++ [93]) w) := by
  have hh : Hid (BdAt w b l) := h
  have HS : Hid (SetIn w p 4 f) := hs
  clear h hs
  have hl0 := Sp.listed_le f
  cases nt with
  | true =>
    show Calls _ _ _ _ (PrOut b l ([91, 94] ++ Sp.listed f ++ [93]) w)
    go_enter Tryz.func25, Tryz.ntmps25
    go_wp2_with fail
    refine (wb_any b l 91 _ (by exact hh.out) (by omega)).mono ?_
    rintro e w1 ⟨rfl, hb1, hu1⟩
    have HB1 : Hid (BdAt w1 b (l ++ [91])) := hb1
    have HU1 : Hid (Below b w w1) := hu1
    have h8' : w1.cell? ⟨p, 8, none⟩ = some (.bool true) := (cell_same (hu1.block p hp) 8).trans h8
    clear hb1 hu1 h8
    go_wp2_with fail
    refine (wb_any b (l ++ [91]) 94 _ (by exact HB1.out) (by simp; omega)).mono ?_
    rintro e w2 ⟨rfl, hb2, hu2⟩
    have HB2 : Hid (BdAt w2 b (l ++ [91] ++ [94])) := hb2
    have HU2 : Hid (Below b w w2) := HU1.out.trans hu2
    clear hb2 hu2 h8'
    obtain ⟨l2, HL2⟩ : ∃ l2, Hid (l2 = l ++ [91] ++ [94]) := ⟨l ++ [91] ++ [94], (rfl : l ++ [91] ++ [94] = _)⟩
    rw [← HL2.out] at HB2
    have hl2 : l2.length ≤ 8000002 := by rw [HL2.out]; simp; omega
    go_wp2_with fail
    go_loopg [4] 257 (fun gn v wr => PListdInv b p f l2 w gn v wr)
    case atStart => exact ⟨0, l2, rfl, by omega, by omega, HB2.out, HU2.out, rfl, by omega⟩
    case round =>
      obtain ⟨cc, cur, rfl, hcc, hgn, hb, hu, heq, hlen⟩ := hrel.st
      clear HB2 HU2 hh hrel
      have HB : Hid (BdAt wr b cur) := hb
      have HU : Hid (Below b w wr) := hu
      have HSr : Hid (SetIn wr p 4 f) := HS.out.below hu hp
      clear hb hu
      by_cases hlt : cc < 256
      · obtain ⟨fuel, rfl⟩ : ∃ n, gk = n + 1 := ⟨gk - 1, by omega⟩
        have HQ : Hid (l2 ++ Sp.listed f = cur ++ Sp.listedFrom f (fuel + 1) cc) := heq
        clear heq
        have hlt' : (cc : Int) < 256 := by omega
        cases hf : f cc with
        | true =>
          have HF : Hid (f cc = true) := hf
          obtain ⟨la, HLA⟩ : ∃ la, Hid (la = Sp.runLast f 256 cc) := ⟨_, (rfl : Sp.runLast f 256 cc = _)⟩
          have hla0 : cc ≤ la := by rw [HLA.out]; exact Sp.runLast_ge f 256 cc
          have hla1 : la ≤ 255 := by rw [HLA.out]; exact Sp.runLast_le f 256 cc (by omega)
          have HR : Hid (l2 ++ Sp.listed f = (cur ++ Sp.piece cc la) ++ Sp.listedFrom f fuel (la + 1)) := by
            show _ = _; rw [HQ.out, Sp.listedFrom, if_pos hlt, hf, if_pos rfl, ← HLA.out, List.append_assoc]
          have hpl := Sp.piece_le cc la
          clear hf
          go_wp2_with fail
          refine (tHas_v p 4 f cc true _ (by exact HSr.out) hlt HF.out).mono ?_
          rintro e w3 ⟨rfl, hw3⟩
          rw [hw3]
          clear hw3 w3
          go_wp2_with fail
          refine (prRun_any p 4 f cc _ (by exact HSr.out) hlt).mono ?_
          rw [← HLA.out]
          rintro e w3 ⟨rfl, hw3⟩
          rw [hw3]
          clear hw3 w3
          go_wp2_with fail
          refine (prItem_any b cur cc la _ (by exact HB.out) (by omega) hla0 hla1).mono ?_
          rintro e w4 ⟨rfl, hb4, hu4⟩
          have HB4 : Hid (BdAt w4 b (cur ++ Sp.piece cc la)) := hb4
          have HU4 : Hid (Below b w w4) := HU.out.trans hu4
          clear hb4 hu4
          go_wp2_with fail
          go_roundg fuel
          case measure => omega
          case rel => exact ⟨la + 1, _, int_eq (by omega), by omega, by omega, HB4.out, HU4.out, HR.out, by simp; omega⟩
        | false =>
          have HF : Hid (f cc = false) := hf
          have HR : Hid (l2 ++ Sp.listed f = cur ++ Sp.listedFrom f fuel (cc + 1)) := by
            show _ = _; rw [HQ.out, Sp.listedFrom, if_pos hlt, hf, if_neg (by simp)]
          clear hf
          go_wp2_with fail
          refine (tHas_v p 4 f cc false _ (by exact HSr.out) hlt HF.out).mono ?_
          rintro e w3 ⟨rfl, hw3⟩
          rw [hw3]
          clear hw3 w3
          go_wp2_with fail
          go_roundg fuel
          case measure => omega
          case rel => exact ⟨cc + 1, cur, int_eq (by omega), by omega, by omega, HB.out, HU.out, HR.out, by omega⟩
      · have HQ : Hid (l2 ++ Sp.listed f = cur) := by show _ = _; rw [heq, Sp.listedFrom_out f gk cc (by omega), List.append_nil]
        have hlt' : ¬ (cc : Int) < 256 := by omega
        clear heq
        go_wp2_with fail
        refine (wb_any b cur 93 _ (by exact HB.out) (by omega)).mono ?_
        rintro e w4 ⟨rfl, hb4, hu4⟩
        have HB4 : Hid (BdAt w4 b (cur ++ [93])) := hb4
        have HU4 : Hid (Below b w w4) := HU.out.trans hu4
        clear hb4 hu4
        go_wp2_with fail
        go_end0
        refine ⟨rfl, ?_, HU4.out⟩
        have := HB4.out
        rw [← HQ.out, HL2.out] at this
        simpa using this
  | false =>
    show Calls _ _ _ _ (PrOut b l ([91] ++ Sp.listed f ++ [93]) w)
    go_enter Tryz.func25, Tryz.ntmps25
    go_wp2_with fail
    refine (wb_any b l 91 _ (by exact hh.out) (by omega)).mono ?_
    rintro e w2 ⟨rfl, hb2, hu2⟩
    have HB2 : Hid (BdAt w2 b (l ++ [91])) := hb2
    have HU2 : Hid (Below b w w2) := hu2
    have h8' : w2.cell? ⟨p, 8, none⟩ = some (.bool false) := (cell_same (hu2.block p hp) 8).trans h8
    clear hb2 hu2 h8
    obtain ⟨l2, HL2⟩ : ∃ l2, Hid (l2 = l ++ [91]) := ⟨l ++ [91], (rfl : l ++ [91] = _)⟩
    rw [← HL2.out] at HB2
    have hl2 : l2.length ≤ 8000002 := by rw [HL2.out]; simp; omega
    go_wp2_with fail
    go_loopg [4] 257 (fun gn v wr => PListdInv b p f l2 w gn v wr)
    case atStart => exact ⟨0, l2, rfl, by omega, by omega, HB2.out, HU2.out, rfl, by omega⟩
    case round =>
      obtain ⟨cc, cur, rfl, hcc, hgn, hb, hu, heq, hlen⟩ := hrel.st
      clear HB2 HU2 hh hrel
      have HB : Hid (BdAt wr b cur) := hb
      have HU : Hid (Below b w wr) := hu
      have HSr : Hid (SetIn wr p 4 f) := HS.out.below hu hp
      clear hb hu
      by_cases hlt : cc < 256
      · obtain ⟨fuel, rfl⟩ : ∃ n, gk = n + 1 := ⟨gk - 1, by omega⟩
        have HQ : Hid (l2 ++ Sp.listed f = cur ++ Sp.listedFrom f (fuel + 1) cc) := heq
        clear heq
        have hlt' : (cc : Int) < 256 := by omega
        cases hf : f cc with
        | true =>
          have HF : Hid (f cc = true) := hf
          obtain ⟨la, HLA⟩ : ∃ la, Hid (la = Sp.runLast f 256 cc) := ⟨_, (rfl : Sp.runLast f 256 cc = _)⟩
          have hla0 : cc ≤ la := by rw [HLA.out]; exact Sp.runLast_ge f 256 cc
          have hla1 : la ≤ 255 := by rw [HLA.out]; exact Sp.runLast_le f 256 cc (by omega)
          have HR : Hid (l2 ++ Sp.listed f = (cur ++ Sp.piece cc la) ++ Sp.listedFrom f fuel (la + 1)) := by
            show _ = _; rw [HQ.out, Sp.listedFrom, if_pos hlt, hf, if_pos rfl, ← HLA.out, List.append_assoc]
          have hpl := Sp.piece_le cc la
          clear hf
          go_wp2_with fail
          refine (tHas_v p 4 f cc true _ (by exact HSr.out) hlt HF.out).mono ?_
          rintro e w3 ⟨rfl, hw3⟩
          rw [hw3]
          clear hw3 w3
          go_wp2_with fail
          refine (prRun_any p 4 f cc _ (by exact HSr.out) hlt).mono ?_
          rw [← HLA.out]
          rintro e w3 ⟨rfl, hw3⟩
          rw [hw3]
          clear hw3 w3
          go_wp2_with fail
          refine (prItem_any b cur cc la _ (by exact HB.out) (by omega) hla0 hla1).mono ?_
          rintro e w4 ⟨rfl, hb4, hu4⟩
          have HB4 : Hid (BdAt w4 b (cur ++ Sp.piece cc la)) := hb4
          have HU4 : Hid (Below b w w4) := HU.out.trans hu4
          clear hb4 hu4
          go_wp2_with fail
          go_roundg fuel
          case measure => omega
          case rel => exact ⟨la + 1, _, int_eq (by omega), by omega, by omega, HB4.out, HU4.out, HR.out, by simp; omega⟩
        | false =>
          have HF : Hid (f cc = false) := hf
          have HR : Hid (l2 ++ Sp.listed f = cur ++ Sp.listedFrom f fuel (cc + 1)) := by
            show _ = _; rw [HQ.out, Sp.listedFrom, if_pos hlt, hf, if_neg (by simp)]
          clear hf
          go_wp2_with fail
          refine (tHas_v p 4 f cc false _ (by exact HSr.out) hlt HF.out).mono ?_
          rintro e w3 ⟨rfl, hw3⟩
          rw [hw3]
          clear hw3 w3
          go_wp2_with fail
          go_roundg fuel
          case measure => omega
          case rel => exact ⟨cc + 1, cur, int_eq (by omega), by omega, by omega, HB.out, HU.out, HR.out, by omega⟩
      · have HQ : Hid (l2 ++ Sp.listed f = cur) := by show _ = _; rw [heq, Sp.listedFrom_out f gk cc (by omega), List.append_nil]
        have hlt' : ¬ (cc : Int) < 256 := by omega
        clear heq
        go_wp2_with fail
        refine (wb_any b cur 93 _ (by exact HB.out) (by omega)).mono ?_
        rintro e w4 ⟨rfl, hb4, hu4⟩
        have HB4 : Hid (BdAt w4 b (cur ++ [93])) := hb4
        have HU4 : Hid (Below b w w4) := HU.out.trans hu4
        clear hb4 hu4
        go_wp2_with fail
        go_end0
        refine ⟨rfl, ?_, HU4.out⟩
        have := HB4.out
        rw [← HQ.out, HL2.out] at this
        simpa using this
end Go.Proofs.YtcpfpnjkfahjcaaGreatDoor

set_option linter.unusedSimpArgs false
set_option linter.unusedVariables false
namespace Go.Proofs.YtcpfpnjkfahjcaaGreatDoor
open Go.RowKit

def cntMN (m n : Int) : List UInt8 := Sp.cnt { Sp.blank with min := m, max := n }
theorem cnt_is (a : Lab) : Sp.cnt a = cntMN a.min a.max := rfl
theorem itoa_v (m : Int) (h0 : 0 ≤ m) (h1 : m ≤ 20) (w : World) :
    Calls Tryz.prog 63 #[.int .i64 m] w fun e w' => e = .returned (.string (str (Sp.digs m))) ∧ w' = w := by
  obtain ⟨k, rfl⟩ := Int.eq_ofNat_of_zero_le h0
  rw [← dec_is (by omega : k < 100)]
  exact itoa_any k (by omega) w

set_option maxHeartbeats 800000 in
theorem prBounds_any (b : Nat) (l : List UInt8) (m n : Int) (w : World) (h : BdAt w b l) (hl : l.length ≤ 8000000) (m0 : 0 ≤ m) (m1 : m ≤ 20) (n0 : -1 ≤ n) (n1 : n ≤ 20) :
    Calls Tryz.prog 42 #[.pointer (some ⟨b, 0, none⟩), .int .i64 m, .int .i64 n] w (PrOut b l ([123] ++ Sp.digs m ++ (if n = m then [125] else if n < 0 then [44, 125] else [44] ++ Sp.digs n ++ [125])) w) := by
  have hh : Hid (BdAt w b l) := h
  clear h
  have hs1 := Sp.digs_le m
  have hs2 := Sp.digs_le n
  by_cases e1 : n = m
  · subst e1
    rw [if_pos rfl]
    go_enter Tryz.func42, Tryz.ntmps42
    go_wp2_with fail
    refine (wb_any b l 123 _ (by exact hh.out) (by omega)).mono ?_
    rintro e w1 ⟨rfl, hb1, hu1⟩
    have HB1 : Hid (BdAt w1 b (l ++ [123])) := hb1
    have HU1 : Hid (Below b w w1) := hu1
    clear hb1 hu1
    go_wp2_with fail
    refine (itoa_v n m0 m1 _).mono ?_
    rintro e w2 ⟨rfl, hw2⟩
    rw [hw2]
    clear hw2 w2
    go_wp2_with fail
    refine (ws_any b (l ++ [123]) _ _ (by exact HB1.out) (by simp; omega) (by show (Sp.digs n).toArray.size ≤ _; simp; omega)).mono ?_
    rintro e w3 ⟨rfl, hb3, hu3⟩
    have HB3 : Hid (BdAt w3 b (l ++ [123] ++ Sp.digs n)) := by show BdAt _ _ _; simpa [str] using hb3
    have HU3 : Hid (Below b w w3) := HU1.out.trans hu3
    clear hb3 hu3
    go_wp2_with fail
    refine (wb_any b (l ++ [123] ++ Sp.digs n) 125 _ (by exact HB3.out) (by simp; omega)).mono ?_
    rintro e w4 ⟨rfl, hb4, hu4⟩
    go_wp2_with fail
    go_end0
    exact ⟨rfl, by simpa using hb4, HU3.out.trans hu4⟩
  · have hne : (n != m) = true := by simpa using e1
    rw [if_neg e1]
    by_cases e2 : n < 0
    · rw [if_pos e2]
      have e2' : n = -1 := by omega
      subst e2'
      go_enter Tryz.func42, Tryz.ntmps42
      go_wp2_with fail
      refine (wb_any b l 123 _ (by exact hh.out) (by omega)).mono ?_
      rintro e w1 ⟨rfl, hb1, hu1⟩
      have HB1 : Hid (BdAt w1 b (l ++ [123])) := hb1
      have HU1 : Hid (Below b w w1) := hu1
      clear hb1 hu1
      go_wp2_with fail
      refine (itoa_v m m0 m1 _).mono ?_
      rintro e w2 ⟨rfl, hw2⟩
      rw [hw2]
      clear hw2 w2
      go_wp2_with fail
      refine (ws_any b (l ++ [123]) _ _ (by exact HB1.out) (by simp; omega) (by show (Sp.digs m).toArray.size ≤ _; simp; omega)).mono ?_
      rintro e w3 ⟨rfl, hb3, hu3⟩
      have HB3 : Hid (BdAt w3 b (l ++ [123] ++ Sp.digs m)) := by show BdAt _ _ _; simpa [str] using hb3
      have HU3 : Hid (Below b w w3) := HU1.out.trans hu3
      clear hb3 hu3
      go_wp2_with fail
      refine (wb_any b (l ++ [123] ++ Sp.digs m) 44 _ (by exact HB3.out) (by simp; omega)).mono ?_
      rintro e w4 ⟨rfl, hb4, hu4⟩
      have HB4 : Hid (BdAt w4 b (l ++ [123] ++ Sp.digs m ++ [44])) := hb4
      have HU4 : Hid (Below b w w4) := HU3.out.trans hu4
      clear hb4 hu4
      go_wp2_with fail
      refine (wb_any b (l ++ [123] ++ Sp.digs m ++ [44]) 125 _ (by exact HB4.out) (by simp; omega)).mono ?_
      rintro e w5 ⟨rfl, hb5, hu5⟩
      go_wp2_with fail
      go_end0
      exact ⟨rfl, by simpa using hb5, HU4.out.trans hu5⟩
    · rw [if_neg e2]
      have hne2 : (n != -1) = true := by simp; omega
      go_enter Tryz.func42, Tryz.ntmps42
      go_wp2_with fail
      refine (wb_any b l 123 _ (by exact hh.out) (by omega)).mono ?_
      rintro e w1 ⟨rfl, hb1, hu1⟩
      have HB1 : Hid (BdAt w1 b (l ++ [123])) := hb1
      have HU1 : Hid (Below b w w1) := hu1
      clear hb1 hu1
      go_wp2_with fail
      refine (itoa_v m m0 m1 _).mono ?_
      rintro e w2 ⟨rfl, hw2⟩
      rw [hw2]
      clear hw2 w2
      go_wp2_with fail
      refine (ws_any b (l ++ [123]) _ _ (by exact HB1.out) (by simp; omega) (by show (Sp.digs m).toArray.size ≤ _; simp; omega)).mono ?_
      rintro e w3 ⟨rfl, hb3, hu3⟩
      have HB3 : Hid (BdAt w3 b (l ++ [123] ++ Sp.digs m)) := by show BdAt _ _ _; simpa [str] using hb3
      have HU3 : Hid (Below b w w3) := HU1.out.trans hu3
      clear hb3 hu3
      go_wp2_with fail
      refine (wb_any b (l ++ [123] ++ Sp.digs m) 44 _ (by exact HB3.out) (by simp; omega)).mono ?_
      rintro e w4 ⟨rfl, hb4, hu4⟩
      have HB4 : Hid (BdAt w4 b (l ++ [123] ++ Sp.digs m ++ [44])) := hb4
      have HU4 : Hid (Below b w w4) := HU3.out.trans hu4
      clear hb4 hu4
      go_wp2_with fail
      refine (itoa_v n (by omega) n1 _).mono ?_
      rintro e w2 ⟨rfl, hw2⟩
      rw [hw2]
      clear hw2 w2
      go_wp2_with fail
      refine (ws_any b (l ++ [123] ++ Sp.digs m ++ [44]) _ _ (by exact HB4.out) (by simp; omega) (by show (Sp.digs n).toArray.size ≤ _; simp; omega)).mono ?_
      rintro e w5 ⟨rfl, hb5, hu5⟩
      have HB5 : Hid (BdAt w5 b (l ++ [123] ++ Sp.digs m ++ [44] ++ Sp.digs n)) := by show BdAt _ _ _; simpa [str] using hb5
      have HU5 : Hid (Below b w w5) := HU4.out.trans hu5
      clear hb5 hu5
      go_wp2_with fail
      refine (wb_any b (l ++ [123] ++ Sp.digs m ++ [44] ++ Sp.digs n) 125 _ (by exact HB5.out) (by simp; omega)).mono ?_
      rintro e w6 ⟨rfl, hb6, hu6⟩
      go_wp2_with fail
      go_end0
      exact ⟨rfl, by simpa using hb6, HU5.out.trans hu6⟩

theorem cnt_1 : cntMN 0 (-1) = [42] := rfl
theorem cnt_2 : cntMN 1 (-1) = [43] := rfl
theorem cnt_3 : cntMN 0 1 = [63] := rfl
theorem cnt_4 {m n : Int} (m0 : 0 ≤ m) (h1 : ¬ (m = 0 ∧ n < 0)) (h2 : ¬ (m = 1 ∧ n < 0)) (h3 : ¬ (m = 0 ∧ n = 1)) : cntMN m n = [123] ++ Sp.digs m ++ (if n = m then [125] else if n < 0 then [44, 125] else [44] ++ Sp.digs n ++ [125]) := by
  unfold cntMN Sp.cnt
  simp only
  rw [if_neg (by omega), if_neg h1, if_neg h2, if_neg h3]
  by_cases e1 : n = m
  · subst e1; rw [if_neg (by omega), if_pos rfl, if_pos rfl]
  · rw [if_neg e1]
    by_cases e2 : n < 0
    · rw [if_pos e2, if_pos e2]
    · rw [if_neg e2, if_neg e2, if_neg (fun e => e1 e.symm)]; simp

set_option maxHeartbeats 800000 in
theorem prCount_any (b : Nat) (l : List UInt8) (m n : Int) (w : World) (h : BdAt w b l) (hl : l.length ≤ 8000000) (m0 : 0 ≤ m) (m1 : m ≤ 20) (n0 : -1 ≤ n) (n1 : n ≤ 20) :
    Calls Tryz.prog 27 #[.pointer (some ⟨b, 0, none⟩), .int .i64 m, .int .i64 n] w (PrOut b l (cntMN m n) w) := by
  have hh : Hid (BdAt w b l) := h
  clear h
  by_cases e1 : m = 0 ∧ n < 0
  · obtain ⟨rfl, e⟩ := e1
    have e2 : n = -1 := by omega
    subst e2
    rw [cnt_1]
    go_enter Tryz.func27, Tryz.ntmps27
    go_wp2_with fail
    refine (wb_any b l 42 _ (by exact hh.out) (by omega)).mono ?_
    rintro e w1 ⟨rfl, hb1, hu1⟩
    go_wp2_with fail
    go_end0
    exact ⟨rfl, hb1, hu1⟩
  by_cases e2 : m = 1 ∧ n < 0
  · obtain ⟨rfl, e⟩ := e2
    have e2 : n = -1 := by omega
    subst e2
    rw [cnt_2]
    go_enter Tryz.func27, Tryz.ntmps27
    go_wp2_with fail
    refine (wb_any b l 43 _ (by exact hh.out) (by omega)).mono ?_
    rintro e w1 ⟨rfl, hb1, hu1⟩
    go_wp2_with fail
    go_end0
    exact ⟨rfl, hb1, hu1⟩
  by_cases e3 : m = 0 ∧ n = 1
  · obtain ⟨rfl, rfl⟩ := e3
    rw [cnt_3]
    go_enter Tryz.func27, Tryz.ntmps27
    go_wp2_with fail
    refine (wb_any b l 63 _ (by exact hh.out) (by omega)).mono ?_
    rintro e w1 ⟨rfl, hb1, hu1⟩
    go_wp2_with fail
    go_end0
    exact ⟨rfl, hb1, hu1⟩
  rw [cnt_4 m0 e1 e2 e3]
  obtain ⟨new, HN⟩ : ∃ new, Hid (new = [123] ++ Sp.digs m ++ (if n = m then [125] else if n < 0 then [44, 125] else [44] ++ Sp.digs n ++ [125])) := ⟨_, (rfl : [123] ++ Sp.digs m ++ (if n = m then [125] else if n < 0 then [44, 125] else [44] ++ Sp.digs n ++ [125]) = _)⟩
  rw [← HN.out]
  have HE : Hid (¬ (m = 0 ∧ n < 0) ∧ ¬ (m = 1 ∧ n < 0) ∧ ¬ (m = 0 ∧ n = 1)) := ⟨e1, e2, e3⟩
  clear e1 e2 e3
  go_enter Tryz.func27, Tryz.ntmps27
  go_wp2_with fail
  · exfalso; have q1 := ‹m = 0›; have q2 := ‹(n == -1) = true›; have := HE.out; rw [beq_iff_eq] at q2; omega
  · exfalso; have q1 := ‹m = 0›; have q2 := ‹(n == 1) = true›; have := HE.out; rw [beq_iff_eq] at q2; omega
  · have q0 := ‹m = 0›
    subst q0
    refine (prBounds_any b l 0 n _ (by exact hh.out) hl (by omega) (by omega) n0 n1).mono ?_
    rw [← HN.out]
    rintro e w1 ⟨rfl, hb1, hu1⟩
    go_wp2_with fail
    go_end0
    exact ⟨rfl, hb1, hu1⟩
  · exfalso; have q1 := ‹m = 1›; have q2 := ‹(n == -1) = true›; have := HE.out; rw [beq_iff_eq] at q2; omega
  · have q1 := ‹m = 1›
    subst q1
    refine (prBounds_any b l 1 n _ (by exact hh.out) hl (by omega) (by omega) n0 n1).mono ?_
    rw [← HN.out]
    rintro e w1 ⟨rfl, hb1, hu1⟩
    go_wp2_with fail
    go_end0
    exact ⟨rfl, hb1, hu1⟩
  · refine (prBounds_any b l m n _ (by exact hh.out) hl (by omega) (by omega) n0 n1).mono ?_
    rw [← HN.out]
    rintro e w1 ⟨rfl, hb1, hu1⟩
    go_wp2_with fail
    go_end0
    exact ⟨rfl, hb1, hu1⟩
end Go.Proofs.YtcpfpnjkfahjcaaGreatDoor

set_option linter.unusedSimpArgs false
set_option linter.unusedVariables false
namespace Go.Proofs.YtcpfpnjkfahjcaaGreatDoor
open Go.RowKit

theorem NodesAt.below {w w' : World} {b : Nat} {ps : List Nat} {ts : List Tr} (h : NodesAt w (fun k => k < b) ps ts) (hb : Below b w w') : NodesAt w' (fun k => k < b) ps ts :=
  NodesAt.same ps ts h (fun k hk _ => hb.block k hk)

/-- Writing a tree. -/
def WriteC (t : Tr) : Prop := ∀ (p b : Nat) (l : List UInt8) (w : World), BdAt w b l → l.length + 2321 * Sp.nodes [t] ≤ 7000000 → NodesAt w (fun k => k < b) [p] [t] →
  Calls Tryz.prog 17 #[.pointer (some ⟨b, 0, none⟩), .pointer (some ⟨p, 0, none⟩)] w (PrOut b l (Sp.text t) w)

def between (bar : Bool) : ByteArray := if bar then ⟨#[124]⟩ else ⟨#[]⟩
theorem between_list (bar : Bool) : (between bar).data.toList = if bar then [124] else [] := by cases bar <;> rfl

structure PAllInv (b : Nat) (l : List UInt8) (bar : Bool) (qs : List Nat) (ks : List Tr) (w : World) (gn : Nat) (v : Value) (wr : World) : Prop where
  st : ∃ k : Nat, v = .int .i64 k ∧ k + gn = qs.length ∧ BdAt wr b (l ++ Sp.texts bar true (ks.take k)) ∧ Below b w wr

theorem pnodes_take (ks : List Tr) (k : Nat) : Sp.nodes (ks.take k) ≤ Sp.nodes ks := by
  have h := Sp.nodes_append (ks.take k) (ks.drop k)
  rw [List.take_append_drop] at h; omega
theorem pnodes_get {ks : List Tr} {k : Nat} {t : Tr} (h : ks[k]? = some t) : Sp.nodes (ks.take k) + Sp.nodes [t] ≤ Sp.nodes ks := by
  have h1 := pnodes_take ks (k + 1)
  rw [take_get h, Sp.nodes_append] at h1; exact h1

set_option maxHeartbeats 2000000 in
theorem prAll_some (b : Nat) (l : List UInt8) (bar : Bool) (g cap : Nat) (qs : List Nat) (ks : List Tr) (w : World) (h : BdAt w b l) (hl : l.length + 2321 * Sp.nodes ks ≤ 7000000) (hn : NodesAt w (fun k => k < b) qs ks) (hg : g < b) (hcell : ∀ k q, qs[k]? = some q → w.cell? ⟨g, k, none⟩ = some (ptr q)) (hw : ∀ (k : Nat) t, ks[k]? = some t → WriteC t) (hql : qs.length ≤ 1000) :
    Calls Tryz.prog 28 #[.pointer (some ⟨b, 0, none⟩), .string (between bar), .slice (some ⟨g, 0, none⟩) qs.length cap] w (PrOut b l (Sp.texts bar true ks) w) := by
  have hh : Hid (BdAt w b l) := h
  have HN : Hid (NodesAt w (fun k => k < b) qs ks) := hn
  have HL : Hid (qs.length = ks.length) := NodesAt.length _ _ hn
  have HC : Hid (∀ k q, qs[k]? = some q → w.cell? ⟨g, k, none⟩ = some (ptr q)) := hcell
  have HW : Hid (∀ (k : Nat) t, ks[k]? = some t → WriteC t) := hw
  obtain ⟨bs, HBS⟩ : ∃ bs, Hid (bs = between bar) := ⟨between bar, (rfl : between bar = _)⟩
  rw [← HBS.out]
  clear h hn hcell hw
  go_enter Tryz.func28, Tryz.ntmps28
  go_wp2_with fail
  go_loopg [10] qs.length (fun gn v wr => PAllInv b l bar qs ks w gn v wr)
  case atStart => exact ⟨0, rfl, by omega, by simpa [Sp.texts] using hh.out, Below.refl _ _⟩
  case round =>
    obtain ⟨k, rfl, hgn, hb, hu⟩ := hrel.st
    clear hh hrel
    have HB : Hid (BdAt wr b (l ++ Sp.texts bar true (ks.take k))) := hb
    have HU : Hid (Below b w wr) := hu
    have htl := Sp.texts_le bar (ks.take k) true
    by_cases hlt : k < qs.length
    · obtain ⟨q, hq⟩ : ∃ q, qs[k]? = some q := ⟨_, List.getElem?_eq_getElem hlt⟩
      obtain ⟨t, ht⟩ : ∃ t, ks[k]? = some t := ⟨_, List.getElem?_eq_getElem (by have := HL.out; omega)⟩
      have hc : wr.cell? ⟨g, k, none⟩ = some (.pointer (some ⟨q, 0, none⟩)) := (cell_same (hu.block g hg) k).trans (HC.out k q hq)
      have HT : Hid (NodesAt wr (fun k => k < b) [q] [t]) := (NodesAt.get _ _ HN.out k q t hq ht).below hu
      have HWt : Hid (WriteC t) := HW.out k t ht
      have hng := pnodes_get ht
      have HX : Hid (Sp.texts bar true (ks.take (k + 1)) = Sp.texts bar true (ks.take k) ++ ((if bar && !(ks.take k).isEmpty then [124] else []) ++ Sp.text t)) := by
        show _ = _; rw [take_get ht, Sp.texts_snoc]; simp
      obtain ⟨fuel, rfl⟩ : ∃ n, gk = n + 1 := ⟨gk - 1, by omega⟩
      clear hb hu ht hq
      by_cases hk0 : k = 0
      · subst hk0
        have HX' : Hid (Sp.texts bar true (ks.take (0 + 1)) = Sp.text t) := by show _ = _; rw [HX.out]; simp [Sp.texts]
        have HB' : Hid (BdAt wr b l) := by show BdAt _ _ _; simpa [Sp.texts] using HB.out
        go_wp2_with fail
        refine (HWt.out q b l _ (by exact HB'.out) (by omega) (by exact HT.out)).mono ?_
        rintro e w3 ⟨rfl, hb3, hu3⟩
        have HB3 : Hid (BdAt w3 b (l ++ Sp.texts bar true (ks.take (0 + 1)))) := by rw [HX'.out]; exact hb3
        have HU3 : Hid (Below b w w3) := HU.out.trans hu3
        clear hb3 hu3
        go_wp2_with fail
        go_roundg fuel
        case measure => omega
        case rel => exact ⟨0 + 1, int_eq (by omega), by omega, HB3.out, HU3.out⟩
      · have hk0' : (0 : Int) < k := by omega
        have HX' : Hid (Sp.texts bar true (ks.take (k + 1)) = Sp.texts bar true (ks.take k) ++ ((between bar).data.toList ++ Sp.text t)) := by
          show _ = _; rw [HX.out, between_list]
          have : (ks.take k).isEmpty = false := by
            have := HL.out
            cases hks : ks.take k with
            | nil => have h2 : (ks.take k).length = 0 := by rw [hks]; rfl
                     rw [List.length_take] at h2; omega
            | cons a r => rfl
          rw [this]; cases bar <;> rfl
        have hf1 : 1 ≤ Sp.nodes (ks.take k) := by
          have := Sp.length_le_nodes (ks.take k); have h3 := HL.out; rw [List.length_take] at this; omega
        have hbl : (between bar).data.toList.length ≤ 1 := by rw [between_list]; cases bar <;> simp
        have hbz : (between bar).size ≤ 1 := hbl
        go_wp2_with fail
        refine (ws_any b (l ++ Sp.texts bar true (ks.take k)) bs _ (by exact HB.out) (by simp; omega) (by rw [HBS.out]; omega)).mono ?_
        rintro e w2 ⟨rfl, hb2, hu2⟩
        have HB2 : Hid (BdAt w2 b (l ++ Sp.texts bar true (ks.take k) ++ (between bar).data.toList)) := by rw [← HBS.out]; exact hb2
        have HU2 : Hid (Below b w w2) := HU.out.trans hu2
        have HT2 : Hid (NodesAt w2 (fun k => k < b) [q] [t]) := HT.out.below hu2
        clear hb2 hu2
        go_wp2_with fail
        have hnt : 1 ≤ Sp.nodes [t] := by rw [Sp.nodes_cons]; omega
        refine (HWt.out q b (l ++ Sp.texts bar true (ks.take k) ++ (between bar).data.toList) _ (by exact HB2.out) ?_ (by exact HT2.out)).mono ?_
        · simp only [List.length_append]; omega
        rintro e w3 ⟨rfl, hb3, hu3⟩
        have HB3 : Hid (BdAt w3 b (l ++ Sp.texts bar true (ks.take (k + 1)))) := by show BdAt _ _ _; rw [HX'.out]; simpa using hb3
        have HU3 : Hid (Below b w w3) := HU2.out.trans hu3
        clear hb3 hu3
        go_wp2_with fail
        go_roundg fuel
        case measure => omega
        case rel => exact ⟨k + 1, int_eq (by omega), by omega, HB3.out, HU3.out⟩
    · have HK : Hid (ks.take k = ks) := by show _ = _; have := HL.out; exact List.take_of_length_le (by omega)
      clear hb hu
      go_wp2_with fail
      go_end0
      exact ⟨rfl, by rw [← HK.out]; exact HB.out, HU.out⟩
end Go.Proofs.YtcpfpnjkfahjcaaGreatDoor

set_option linter.unusedSimpArgs false
set_option linter.unusedVariables false
namespace Go.Proofs.YtcpfpnjkfahjcaaGreatDoor
open Go.RowKit

set_option maxHeartbeats 400000 in
theorem prAll_nil (b : Nat) (l : List UInt8) (bs : ByteArray) (w : World) (h : BdAt w b l) :
    Calls Tryz.prog 28 #[.pointer (some ⟨b, 0, none⟩), .string bs, .slice none 0 0] w (PrOut b l [] w) := by
  have hh : Hid (BdAt w b l) := h
  clear h
  go_enter Tryz.func28, Tryz.ntmps28
  go_wp2_with fail
  refine wp_loop_rounds 1 ?_
  rw [rounds_succ]
  go_wp2_with fail
  go_end0
  exact ⟨rfl, by simpa using hh.out, Below.refl _ _⟩

theorem prAll_any (b : Nat) (l : List UInt8) (bar : Bool) (lv : Value) (qs : List Nat) (ks : List Tr) (w : World) (h : BdAt w b l) (hl : l.length + 2321 * Sp.nodes ks ≤ 7000000) (hn : NodesAt w (fun k => k < b) qs ks) (ho : w.ownsRow 0 42 1 lv qs.length (qs.map ptr)) (hg : ∀ g, lv.ownBlock = some g → g < b) (hw : ∀ (k : Nat) t, ks[k]? = some t → WriteC t) (hql : qs.length ≤ 1000) :
    Calls Tryz.prog 28 #[.pointer (some ⟨b, 0, none⟩), .string (between bar), lv] w (PrOut b l (Sp.texts bar true ks) w) := by
  rcases own_cells ho with ⟨hl', hqs⟩ | ⟨g, cap, hl', hcap, hmax, hcell⟩
  · subst hl' hqs
    have hts : ks = [] := List.eq_nil_of_length_eq_zero (by have := NodesAt.length _ _ hn; simpa using this.symm)
    subst hts
    rw [show Sp.texts bar true [] = [] by rw [Sp.texts]]
    exact prAll_nil b l _ w h
  · subst hl'
    exact prAll_some b l bar g cap qs ks w h hl hn (hg g rfl) hcell hw hql

set_option maxHeartbeats 800000 in
theorem prGroup_any (b : Nat) (l : List UInt8) (p q g cap : Nat) (num : Int) (told : Bool) (t : Tr) (w : World) (h : BdAt w b l) (hl : l.length + 2321 * Sp.nodes [t] + 3 ≤ 7000000) (hn : NodesAt w (fun k => k < b) [q] [t]) (hp : p < b) (hg : g < b) (c9 : w.cell? ⟨p, 9, none⟩ = some (.int .i64 num)) (c2 : w.cell? ⟨p, 2, none⟩ = some (.slice (some ⟨g, 0, none⟩) 1 cap)) (cg : w.cell? ⟨g, 0, none⟩ = some (.pointer (some ⟨q, 0, none⟩))) (hw : WriteC t) (ht : told = decide (num ≠ 0)) :
    Calls Tryz.prog 26 #[.pointer (some ⟨b, 0, none⟩), .pointer (some ⟨p, 0, none⟩)] w (PrOut b l ((if told then [40] else [40, 63, 58]) ++ Sp.text t ++ [41]) w) := by
  have hh : Hid (BdAt w b l) := h
  have HN : Hid (NodesAt w (fun k => k < b) [q] [t]) := hn
  have HW : Hid (WriteC t) := hw
  have htx : (Sp.text t).length ≤ 2320 * Sp.nodes [t] := by
    have := Sp.texts_le false [t] true
    rw [Sp.texts_cons] at this; simp [Sp.texts] at this; exact this
  clear h hn hw
  by_cases h0 : num = 0
  · subst h0
    have e : told = false := by rw [ht]; simp
    subst e
    clear ht
    show Calls _ _ _ _ (PrOut b l ([40, 63, 58] ++ Sp.text t ++ [41]) w)
    go_enter Tryz.func26, Tryz.ntmps26
    go_wp2_with fail
    refine (wb_any b l 40 _ (by exact hh.out) (by omega)).mono ?_
    rintro e w1 ⟨rfl, hb1, hu1⟩
    have HB1 : Hid (BdAt w1 b (l ++ [40])) := hb1
    have HU1 : Hid (Below b w w1) := hu1
    have d9 : w1.cell? ⟨p, 9, none⟩ = some (.int .i64 0) := (cell_same (hu1.block p hp) 9).trans c9
    clear hb1 hu1
    go_wp2_with fail
    refine (ws_any b (l ++ [40]) _ _ (by exact HB1.out) (by simp; omega) (by decide)).mono ?_
    rintro e w2 ⟨rfl, hb2, hu2⟩
    have HB2 : Hid (BdAt w2 b (l ++ [40] ++ [63, 58])) := hb2
    have HU2 : Hid (Below b w w2) := HU1.out.trans hu2
    have d2 : w2.cell? ⟨p, 2, none⟩ = some (.slice (some ⟨g, 0, none⟩) 1 cap) := (cell_same (HU2.out.block p hp) 2).trans c2
    have dg : w2.cell? ⟨g, 0, none⟩ = some (.pointer (some ⟨q, 0, none⟩)) := (cell_same (HU2.out.block g hg) 0).trans cg
    clear hb2 hu2 d9 c9 c2 cg
    go_wp2_with fail
    refine (HW.out q b (l ++ [40] ++ [63, 58]) _ (by exact HB2.out) (by simp; omega) (by exact HN.out.below HU2.out)).mono ?_
    rintro e w3 ⟨rfl, hb3, hu3⟩
    have HB3 : Hid (BdAt w3 b (l ++ [40] ++ [63, 58] ++ Sp.text t)) := hb3
    have HU3 : Hid (Below b w w3) := HU2.out.trans hu3
    clear hb3 hu3
    go_wp2_with fail
    refine (wb_any b (l ++ [40] ++ [63, 58] ++ Sp.text t) 41 _ (by exact HB3.out) (by simp; omega)).mono ?_
    rintro e w4 ⟨rfl, hb4, hu4⟩
    go_wp2_with fail
    go_end0
    exact ⟨rfl, by simpa using hb4, HU3.out.trans hu4⟩
  · have e : told = true := by rw [ht]; simp [h0]
    subst e
    have h0' : (num == 0) = false := by simpa using h0
    clear ht
    show Calls _ _ _ _ (PrOut b l ([40] ++ Sp.text t ++ [41]) w)
    go_enter Tryz.func26, Tryz.ntmps26
    go_wp2_with fail
    refine (wb_any b l 40 _ (by exact hh.out) (by omega)).mono ?_
    rintro e w2 ⟨rfl, hb2, hu2⟩
    have HB2 : Hid (BdAt w2 b (l ++ [40])) := hb2
    have HU2 : Hid (Below b w w2) := hu2
    have d9 : w2.cell? ⟨p, 9, none⟩ = some (.int .i64 num) := (cell_same (hu2.block p hp) 9).trans c9
    have d2 : w2.cell? ⟨p, 2, none⟩ = some (.slice (some ⟨g, 0, none⟩) 1 cap) := (cell_same (HU2.out.block p hp) 2).trans c2
    have dg : w2.cell? ⟨g, 0, none⟩ = some (.pointer (some ⟨q, 0, none⟩)) := (cell_same (HU2.out.block g hg) 0).trans cg
    clear hb2 hu2 c9 c2 cg
    go_wp2_with fail
    refine (HW.out q b (l ++ [40]) _ (by exact HB2.out) (by simp; omega) (by exact HN.out.below HU2.out)).mono ?_
    rintro e w3 ⟨rfl, hb3, hu3⟩
    have HB3 : Hid (BdAt w3 b (l ++ [40] ++ Sp.text t)) := hb3
    have HU3 : Hid (Below b w w3) := HU2.out.trans hu3
    clear hb3 hu3
    go_wp2_with fail
    refine (wb_any b (l ++ [40] ++ Sp.text t) 41 _ (by exact HB3.out) (by simp; omega)).mono ?_
    rintro e w4 ⟨rfl, hb4, hu4⟩
    go_wp2_with fail
    go_end0
    exact ⟨rfl, by simpa using hb4, HU3.out.trans hu4⟩


set_option maxHeartbeats 2000000 in
theorem pbare_any (a : Lab) (ks : List Tr) (ha : Sp.LabOK a) (hnum : a.kind = 3 → ks.length = 1 ∧ a.told = decide (a.num ≠ 0)) (hw : ∀ (k : Nat) t, ks[k]? = some t → WriteC t) (p b : Nat) (l : List UInt8) (sz : Int) (lv : Value) (qs : List Nat) (w : World) (h : BdAt w b l) (hl : l.length + 2321 * Sp.nodes ks + 2321 ≤ 7000000)
    (hp : p < b) (ht : TnAt w p (tnOf a sz lv)) (ho : w.ownsRow 0 42 1 lv qs.length (qs.map ptr)) (hg : ∀ g, lv.ownBlock = some g → g < b) (hn : NodesAt w (fun k => k < b) qs ks) (hql : ks.length ≤ 1000) :
    Calls Tryz.prog 17 #[.pointer (some ⟨b, 0, none⟩), .pointer (some ⟨p, 0, none⟩)] w (PrOut b l (Sp.bare1 a (Sp.texts (a.kind == 4) true ks)) w) := by
  have hh : Hid (BdAt w b l) := h
  have HT : Hid (TnAt w p (tnOf a sz lv)) := ht
  have HO : Hid (w.ownsRow 0 42 1 lv qs.length (qs.map ptr)) := ho
  have HG : Hid (∀ g, lv.ownBlock = some g → g < b) := hg
  have HN : Hid (NodesAt w (fun k => k < b) qs ks) := hn
  have HL : Hid (qs.length = ks.length) := NodesAt.length _ _ hn
  have HW : Hid (∀ (k : Nat) t, ks[k]? = some t → WriteC t) := hw
  have f0 := ht.facts.c0
  clear h ht ho hg hn hw
  have hk5 := ha.kind
  rcases (by omega : a.kind = 0 ∨ a.kind = 1 ∨ a.kind = 2 ∨ a.kind = 3 ∨ a.kind = 4 ∨ a.kind = 5) with hk | hk | hk | hk | hk | hk
  · have hb := (ha.byte hk).1
    have c0 : w.cell? ⟨p, 0, none⟩ = some (.int .i64 0) := by simpa [tnOf, kindP, hk] using f0
    have c3 : w.cell? ⟨p, 3, none⟩ = some (.int .u8 a.byte) := by simpa [tnOf, hk] using HT.out.facts.c3
    have HR : Hid (Sp.bare1 a (Sp.texts (a.kind == 4) true ks) = Sp.shown a.byte false) := by show _ = _; unfold Sp.bare1; rw [if_neg (by omega), if_pos hk]
    rw [HR.out]
    clear f0 hk hnum
    go_enter Tryz.func17, Tryz.ntmps17
    go_wp2_with fail
    refine (prByte_any b l false a.byte _ (by exact hh.out) (by omega) (by omega) (by omega)).mono ?_
    rintro e w1 ⟨rfl, hb1, hu1⟩
    go_wp2_with fail
    go_end0
    exact ⟨rfl, hb1, hu1⟩
  · have c0 : w.cell? ⟨p, 0, none⟩ = some (.int .i64 1) := by simpa [tnOf, kindP, hk] using f0
    have HR : Hid (Sp.bare1 a (Sp.texts (a.kind == 4) true ks) = [46]) := by show _ = _; unfold Sp.bare1; rw [if_pos hk]
    rw [HR.out]
    clear f0 hk hnum
    go_enter Tryz.func17, Tryz.ntmps17
    go_wp2_with fail
    refine (wb_any b l 46 _ (by exact hh.out) (by omega)).mono ?_
    rintro e w1 ⟨rfl, hb1, hu1⟩
    go_wp2_with fail
    go_end0
    exact ⟨rfl, hb1, hu1⟩
  · have c0 : w.cell? ⟨p, 0, none⟩ = some (.int .i64 2) := by simpa [tnOf, kindP, hk] using f0
    have HS : Hid (SetIn w p 4 a.set) := ⟨by simpa [tnOf, wordP, hk] using HT.out.facts.c4, by simpa [tnOf, wordP, hk] using HT.out.facts.c5, by simpa [tnOf, wordP, hk] using HT.out.facts.c6, by simpa [tnOf, wordP, hk] using HT.out.facts.c7⟩
    have c8 : w.cell? ⟨p, 8, none⟩ = some (.bool a.not) := by simpa [tnOf, hk] using HT.out.facts.c8
    have HR : Hid (Sp.bare1 a (Sp.texts (a.kind == 4) true ks) = (if a.not then [91, 94] else [91]) ++ Sp.listed a.set ++ [93]) := by show _ = _; unfold Sp.bare1; rw [if_neg (by omega), if_neg (by omega), if_pos hk]
    rw [HR.out]
    obtain ⟨new, HNW⟩ : ∃ new, Hid (new = (if a.not then [91, 94] else [91]) ++ Sp.listed a.set ++ [93]) := ⟨_, (rfl : (if a.not then [91, 94] else [91]) ++ Sp.listed a.set ++ [93] = _)⟩
    rw [← HNW.out]
    have H8 : Hid (w.cell? ⟨p, 8, none⟩ = some (.bool a.not)) := c8
    clear f0 hk hnum c8
    go_enter Tryz.func17, Tryz.ntmps17
    go_wp2_with fail
    refine (prList_core b l p a.set a.not _ (by exact hh.out) (by omega) hp (by exact HS.out) (by exact H8.out)).mono ?_
    rw [← HNW.out]
    rintro e w1 ⟨rfl, hb1, hu1⟩
    go_wp2_with fail
    go_end0
    exact ⟨rfl, hb1, hu1⟩
  · obtain ⟨hone, htold⟩ := hnum hk
    obtain ⟨t, rfl⟩ : ∃ t, ks = [t] := by
      match ks, hone with
      | [t], _ => exact ⟨t, rfl⟩
    have hq1 : qs.length = 1 := HL.out
    obtain ⟨q, rfl⟩ : ∃ q, qs = [q] := by
      match qs, hq1 with
      | [q], _ => exact ⟨q, rfl⟩
    obtain ⟨g, cap, hlv, hgc⟩ : ∃ g cap, lv = .slice (some ⟨g, 0, none⟩) 1 cap ∧ w.cell? ⟨g, 0, none⟩ = some (.pointer (some ⟨q, 0, none⟩)) := by
      rcases own_cells HO.out with ⟨_, hqs⟩ | ⟨g, cap, hl', _, _, hcell⟩
      · cases hqs
      · exact ⟨g, cap, hl', hcell 0 q rfl⟩
    have hgb : g < b := HG.out g (by rw [hlv]; rfl)
    have c0 : w.cell? ⟨p, 0, none⟩ = some (.int .i64 3) := by simpa [tnOf, kindP, hk] using f0
    have c2 : w.cell? ⟨p, 2, none⟩ = some (.slice (some ⟨g, 0, none⟩) 1 cap) := by rw [← hlv]; exact HT.out.facts.c2
    have c9 : w.cell? ⟨p, 9, none⟩ = some (.int .i64 a.num) := by simpa [tnOf, hk] using HT.out.facts.c9
    have HR : Hid (Sp.bare1 a (Sp.texts (a.kind == 4) true [t]) = (if a.told then [40] else [40, 63, 58]) ++ Sp.text t ++ [41]) := by
      show _ = _; unfold Sp.bare1; rw [if_neg (by omega), if_neg (by omega), if_neg (by omega), if_pos hk, Sp.texts_cons]; simp [Sp.texts]
    rw [HR.out]
    obtain ⟨new, HNW⟩ : ∃ new, Hid (new = (if a.told then [40] else [40, 63, 58]) ++ Sp.text t ++ [41]) := ⟨_, (rfl : (if a.told then [40] else [40, 63, 58]) ++ Sp.text t ++ [41] = _)⟩
    rw [← HNW.out]
    have HC : Hid (w.cell? ⟨p, 9, none⟩ = some (.int .i64 a.num) ∧ w.cell? ⟨p, 2, none⟩ = some (.slice (some ⟨g, 0, none⟩) 1 cap) ∧ w.cell? ⟨g, 0, none⟩ = some (.pointer (some ⟨q, 0, none⟩)) ∧ a.told = decide ((a.num : Int) ≠ 0)) := ⟨c9, c2, hgc, by rw [htold]; simp⟩
    clear f0 hk hnum c9 c2 hgc htold hlv hone hq1
    go_enter Tryz.func17, Tryz.ntmps17
    go_wp2_with fail
    refine (prGroup_any b l p q g cap a.num a.told t _ (by exact hh.out) (by omega) (by exact HN.out) hp hgb (by exact HC.out.1) (by exact HC.out.2.1) (by exact HC.out.2.2.1) (HW.out 0 t rfl) HC.out.2.2.2).mono ?_
    rw [← HNW.out]
    rintro e w1 ⟨rfl, hb1, hu1⟩
    go_wp2_with fail
    go_end0
    exact ⟨rfl, hb1, hu1⟩
  · have c0 : w.cell? ⟨p, 0, none⟩ = some (.int .i64 6) := by simpa [tnOf, kindP, hk] using f0
    have c2 : w.cell? ⟨p, 2, none⟩ = some lv := HT.out.facts.c2
    have HR : Hid (Sp.bare1 a (Sp.texts (a.kind == 4) true ks) = Sp.texts true true ks) := by
      show _ = _; unfold Sp.bare1; rw [if_neg (by omega), if_neg (by omega), if_neg (by omega), if_neg (by omega), hk]; rfl
    rw [HR.out]
    clear f0 hk hnum
    go_enter Tryz.func17, Tryz.ntmps17
    go_wp2_with fail
    refine (prAll_any b l true lv qs ks _ (by exact hh.out) (by omega) (by exact HN.out) (by exact HO.out) HG.out HW.out (by have := HL.out; omega)).mono ?_
    rintro e w1 ⟨rfl, hb1, hu1⟩
    go_wp2_with fail
    go_end0
    exact ⟨rfl, hb1, hu1⟩
  · have c0 : w.cell? ⟨p, 0, none⟩ = some (.int .i64 5) := by simpa [tnOf, kindP, hk] using f0
    have c2 : w.cell? ⟨p, 2, none⟩ = some lv := HT.out.facts.c2
    have HR : Hid (Sp.bare1 a (Sp.texts (a.kind == 4) true ks) = Sp.texts false true ks) := by
      show _ = _; unfold Sp.bare1; rw [if_neg (by omega), if_neg (by omega), if_neg (by omega), if_neg (by omega), hk]; rfl
    rw [HR.out]
    clear f0 hk hnum
    go_enter Tryz.func17, Tryz.ntmps17
    go_wp2_with fail
    refine (prAll_any b l false lv qs ks _ (by exact hh.out) (by omega) (by exact HN.out) (by exact HO.out) HG.out HW.out (by have := HL.out; omega)).mono ?_
    rintro e w1 ⟨rfl, hb1, hu1⟩
    go_wp2_with fail
    go_end0
    exact ⟨rfl, hb1, hu1⟩
end Go.Proofs.YtcpfpnjkfahjcaaGreatDoor
