import Derived.Test.YtadmlifmcdnhnaaDoorH35
set_option linter.unusedSimpArgs false
set_option linter.unusedVariables false
namespace Go.Proofs.YtadmlifmcdnhnaaDoor
open Go.RowKit

/-- A builder that holds these bytes; nothing of it lies below it. -/
def BdAt (w : World) (b : Nat) (l : List UInt8) : Prop := Lib.IsBuilder 69 5 b b (Lib.byteCells l) w
theorem BdAt.lt {w : World} {b : Nat} {l : List UInt8} (h : BdAt w b l) : b < w.heap.size := by
  rcases h with h | h <;> obtain ⟨_, v, hb, _⟩ := h <;> exact lt_of_heap hb
/-- What a call leaves that writes. -/
def PrOut (b : Nat) (l new : List UInt8) (w : World) (e : Ending) (w' : World) : Prop := e = .returned (.tuple #[]) ∧ BdAt w' b (l ++ new) ∧ Below b w w'

theorem bytes_snoc (l : List UInt8) (u : UInt8) : Lib.byteCells (l ++ [u]) = Lib.byteCells l ++ [.int .u8 u.toNat] := by simp [Lib.byteCells]
theorem bytes_app (l : List UInt8) (s : ByteArray) : Lib.byteCells (l ++ s.data.toList) = Lib.byteCells l ++ Lib.strCells s := by simp [Lib.byteCells, Lib.strCells]
theorem wb_any (b : Nat) (l : List UInt8) (u : UInt8) (w : World) (h : BdAt w b l) (hl : l.length ≤ 100000000) :
    Calls Tryd.prog 29 #[.pointer (some ⟨b, 0, none⟩), .int .u8 (u.toNat : Nat)] w fun e w' => e = .returned .nilIface ∧ BdAt w' b (l ++ [u]) ∧ Below b w w' :=
  (Any.Builder_WriteByte lays167 extra_renB b b (Lib.byteCells l) (u.toNat : Nat) w h (by simp [Lib.byteCells]; omega) (Nat.le_of_lt h.lt)).mono fun e w' q => ⟨q.1, Or.inr (by rw [bytes_snoc]; exact q.2.1), q.2.2⟩
theorem ws_any (b : Nat) (l : List UInt8) (s : ByteArray) (w : World) (h : BdAt w b l) (hl : l.length ≤ 100000000) (hs : s.size ≤ 100000000) :
    Calls Tryd.prog 41 #[.pointer (some ⟨b, 0, none⟩), .string s] w fun e w' => e = .returned (.tuple #[.int .i64 s.size, .nilIface]) ∧ BdAt w' b (l ++ s.data.toList) ∧ Below b w w' :=
  (Any.Builder_WriteString lays166 extra_renB b b (Lib.byteCells l) s w h (by simp [Lib.byteCells]; omega) (Nat.le_of_lt h.lt)).mono fun e w' q => ⟨q.1, Or.inr (by rw [bytes_app]; exact q.2.1), q.2.2⟩
theorem bstr_any (b : Nat) (l : List UInt8) (w : World) (h : BdAt w b l) :
    Calls Tryd.prog 17 #[.pointer (some ⟨b, 0, none⟩)] w fun e w' => e = .returned (.string (str l)) ∧ Below b w w' :=
  Any.Builder_String_any lays169 extra_lays169_ren b b l w h (Nat.le_of_lt h.lt)
theorem itoa_any (i : Nat) (hi : i < 100) (w : World) :
    Calls Tryd.prog 59 #[.int .i64 i] w fun e w' => e = .returned (.string ⟨(Lib.decDigits i).toArray⟩) ∧ w' = w := Any.strconv_Itoa_small lays171 i hi w
theorem dec_all : ((List.range 100).all fun n => Lib.decDigits n == Sp.digs (n : Int)) = true := by kernel_rfl
theorem dec_is {n : Nat} (h : n < 100) : Lib.decDigits n = Sp.digs (n : Int) := by
  have q := dec_all
  rw [List.all_eq_true] at q
  simpa using q n (List.mem_range.2 h)

set_option maxHeartbeats 400000 in
theorem prByte_n (b : Nat) (l : List UInt8) (sg : Bool) (w : World) (h : BdAt w b l) (hl : l.length ≤ 10000000) :
    Calls Tryd.prog 28 #[.pointer (some ⟨b, 0, none⟩), .int .u8 10, .string (sgL sg)] w (PrOut b l (Sp.shown 10 sg) w) := by
  have hh : Hid (BdAt w b l) := h
  have HR : Hid (Sp.shown 10 sg = [92, 110]) := by show _ = _; unfold Sp.shown; rw [if_pos rfl]
  clear h
  go_enter Tryd.func28, Tryd.ntmps28
  go_wp2_with fail
  refine (ws_any b l _ _ (by exact hh.out) (by omega) (by decide)).mono ?_
  rintro e w1 ⟨rfl, hb1, hu1⟩
  go_wp2_with fail
  go_end0
  exact ⟨rfl, by rw [HR.out]; exact hb1, hu1⟩
set_option maxHeartbeats 400000 in
theorem prByte_t (b : Nat) (l : List UInt8) (sg : Bool) (w : World) (h : BdAt w b l) (hl : l.length ≤ 10000000) :
    Calls Tryd.prog 28 #[.pointer (some ⟨b, 0, none⟩), .int .u8 9, .string (sgL sg)] w (PrOut b l (Sp.shown 9 sg) w) := by
  have hh : Hid (BdAt w b l) := h
  have HR : Hid (Sp.shown 9 sg = [92, 116]) := by show _ = _; unfold Sp.shown; rw [if_neg (by decide), if_pos rfl]
  clear h
  go_enter Tryd.func28, Tryd.ntmps28
  go_wp2_with fail
  refine (ws_any b l _ _ (by exact hh.out) (by omega) (by decide)).mono ?_
  rintro e w1 ⟨rfl, hb1, hu1⟩
  go_wp2_with fail
  go_end0
  exact ⟨rfl, by rw [HR.out]; exact hb1, hu1⟩
def hx16 : ByteArray := ⟨#[48, 49, 50, 51, 52, 53, 54, 55, 56, 57, 97, 98, 99, 100, 101, 102]⟩
theorem hx_is (n : Nat) (h : n < hx16.size) : hx16[n] = Sp.hexB (n : Int) := by
  have h' : n < 16 := h
  rcases (by omega : n = 0 ∨ n = 1 ∨ n = 2 ∨ n = 3 ∨ n = 4 ∨ n = 5 ∨ n = 6 ∨ n = 7 ∨ n = 8 ∨ n = 9 ∨ n = 10 ∨ n = 11 ∨ n = 12 ∨ n = 13 ∨ n = 14 ∨ n = 15) with rfl | rfl | rfl | rfl | rfl | rfl | rfl | rfl | rfl | rfl | rfl | rfl | rfl | rfl | rfl | rfl <;> rfl
theorem hx_at {c : Int} (h0 : 0 ≤ c) (h : c.toNat < hx16.size) : hx16[c.toNat] = Sp.hexB c := by
  rw [hx_is, show ((c.toNat : Nat) : Int) = c by omega]
theorem and_all : ((List.range 256).all fun n => bits BinOp.and IntKind.u8 (n : Int) 15 == (n : Int) % 16) = true := by kernel_rfl
theorem and_15 {c : Int} (h0 : 0 ≤ c) (h1 : c ≤ 255) : bits BinOp.and IntKind.u8 c 15 = c % 16 := by
  obtain ⟨n, rfl⟩ := Int.eq_ofNat_of_zero_le h0
  have h := and_all
  rw [List.all_eq_true] at h
  simpa using h n (List.mem_range.2 (by omega))

set_option maxHeartbeats 400000 in
theorem prByte_x (b : Nat) (l : List UInt8) (sg : Bool) (c : Int) (w : World) (h : BdAt w b l) (hl : l.length ≤ 10000000) (h0 : 0 ≤ c) (h1 : c ≤ 255) (hn : c ≠ 10) (ht : c ≠ 9) (hx : c < 33 ∨ 126 < c) :
    Calls Tryd.prog 28 #[.pointer (some ⟨b, 0, none⟩), .int .u8 c, .string (sgL sg)] w (PrOut b l (Sp.shown c sg) w) := by
  have hh : Hid (BdAt w b l) := h
  have HR : Hid (Sp.shown c sg = [92, 120, Sp.hexB (c / 16), Sp.hexB (c % 16)]) := by show _ = _; unfold Sp.shown; rw [if_neg hn, if_neg ht, if_pos hx]
  have hn' : (c == 10) = false := by simpa using hn
  have ht' : (c == 9) = false := by simpa using ht
  have ha : bits BinOp.and IntKind.u8 c 15 = c % 16 := and_15 h0 h1
  clear h hn ht
  go_enter Tryd.func28, Tryd.ntmps28
  go_wp2_with fail
  all_goals
    refine (ws_any b l _ _ (by exact hh.out) (by omega) (by decide)).mono ?_
    rintro e w1 ⟨rfl, hb1, hu1⟩
    have HB1 : Hid (BdAt w1 b (l ++ [92, 120])) := hb1
    have HU1 : Hid (Below b w w1) := hu1
    clear hb1 hu1
    go_wp2_with fail
    refine (wb_any b (l ++ [92, 120]) _ _ (by exact HB1.out) (by simp; omega)).mono ?_
    rintro e w2 ⟨rfl, hb2, hu2⟩
    have HB2 : Hid (BdAt w2 b (l ++ [92, 120] ++ [Sp.hexB (c / 16)])) := by rw [← hx_at (c := c / 16) (by omega) (show _ < 16 by omega)]; exact hb2
    have HU2 : Hid (Below b w w2) := HU1.out.trans hu2
    clear hb2 hu2
    go_wp2_with fail
    refine (wb_any b (l ++ [92, 120] ++ [Sp.hexB (c / 16)]) _ _ (by exact HB2.out) (by simp; omega)).mono ?_
    rintro e w3 ⟨rfl, hb3, hu3⟩
    have HB3 : Hid (BdAt w3 b (l ++ [92, 120] ++ [Sp.hexB (c / 16)] ++ [Sp.hexB (c % 16)])) := by rw [← hx_at (c := c % 16) (by omega) (show _ < 16 by omega)]; exact hb3
    have HU3 : Hid (Below b w w3) := HU2.out.trans hu3
    clear hb3 hu3
    go_wp2_with fail
    go_end0
    exact ⟨rfl, by rw [HR.out]; simpa using HB3.out, HU3.out⟩

set_option maxHeartbeats 400000 in
theorem prByte_s (b : Nat) (l : List UInt8) (sg : Bool) (c : Int) (w : World) (h : BdAt w b l) (hl : l.length ≤ 10000000) (h0 : 33 ≤ c) (h1 : c ≤ 126) (hs : isSign sg c = true) :
    Calls Tryd.prog 28 #[.pointer (some ⟨b, 0, none⟩), .int .u8 c, .string (sgL sg)] w (PrOut b l (Sp.shown c sg) w) := by
  have hh : Hid (BdAt w b l) := h
  have HR : Hid (Sp.shown c sg = [92, Sp.u8 c]) := by show _ = _; unfold Sp.shown; rw [if_neg (by omega), if_neg (by omega), if_neg (by omega), if_pos (show (if sg = true then Sp.listSign c else Sp.sign c) = true from hs)]
  have hix : 0 ≤ ixOf sg c := by have := ix_is (l := sg) (c := c) (by omega) (by omega); rw [hs] at this; simp at this; omega
  have HC : Hid (((Sp.u8 c).toNat : Int) = c) := by show ((UInt8.ofNat c.toNat).toNat : Int) = c; rw [UInt8.toNat_ofNat']; omega
  clear h hs
  obtain ⟨g, HG⟩ : ∃ g, Hid (g = sgL sg) := ⟨sgL sg, (rfl : sgL sg = sgL sg)⟩
  rw [← HG.out]
  go_enter Tryd.func28, Tryd.ntmps28
  go_wp2_with (go_at_call 42; rw [HG.out]; refine (ix_any sg _ _).mono ?_; rintro e w0 ⟨rfl, n0, rfl⟩)
  refine (wb_any b l 92 _ (by exact hh.out) (by omega)).mono ?_
  rintro e w1 ⟨rfl, hb1, hu1⟩
  have HB1 : Hid (BdAt w1 b (l ++ [92])) := hb1
  have HU1 : Hid (Below b w w1) := ⟨hu1.os, hu1.tape, hu1.output, hu1.size, hu1.block⟩
  clear hb1 hu1
  go_wp2_with fail
  rw [show (Value.int .u8 c) = .int .u8 ((Sp.u8 c).toNat : Int) from int_eq HC.out.symm]
  refine (wb_any b (l ++ [92]) (Sp.u8 c) _ (by exact HB1.out) (by simp; omega)).mono ?_
  rintro e w2 ⟨rfl, hb2, hu2⟩
  go_wp2_with fail
  go_end0
  exact ⟨rfl, by rw [HR.out]; simpa using hb2, HU1.out.trans hu2⟩

set_option maxHeartbeats 400000 in
theorem prByte_b (b : Nat) (l : List UInt8) (sg : Bool) (c : Int) (w : World) (h : BdAt w b l) (hl : l.length ≤ 10000000) (h0 : 33 ≤ c) (h1 : c ≤ 126) (hs : isSign sg c = false) :
    Calls Tryd.prog 28 #[.pointer (some ⟨b, 0, none⟩), .int .u8 c, .string (sgL sg)] w (PrOut b l (Sp.shown c sg) w) := by
  have hh : Hid (BdAt w b l) := h
  have HR : Hid (Sp.shown c sg = [Sp.u8 c]) := by show _ = _; unfold Sp.shown; rw [if_neg (by omega), if_neg (by omega), if_neg (by omega), if_neg (by show ¬ isSign sg c = true; rw [hs]; simp)]
  have hix : ¬ 0 ≤ ixOf sg c := by have := ix_is (l := sg) (c := c) (by omega) (by omega); rw [hs] at this; simp at this; omega
  have HC : Hid (((Sp.u8 c).toNat : Int) = c) := by show ((UInt8.ofNat c.toNat).toNat : Int) = c; rw [UInt8.toNat_ofNat']; omega
  clear h hs
  obtain ⟨g, HG⟩ : ∃ g, Hid (g = sgL sg) := ⟨sgL sg, (rfl : sgL sg = sgL sg)⟩
  rw [← HG.out]
  go_enter Tryd.func28, Tryd.ntmps28
  go_wp2_with (go_at_call 42; rw [HG.out]; refine (ix_any sg _ _).mono ?_; rintro e w0 ⟨rfl, n0, rfl⟩)
  rw [show (Value.int .u8 c) = .int .u8 ((Sp.u8 c).toNat : Int) from int_eq HC.out.symm]
  refine (wb_any b l (Sp.u8 c) _ (by exact hh.out) (by omega)).mono ?_
  rintro e w2 ⟨rfl, hb2, hu2⟩
  have HU1 : Hid (Below b w w2) := ⟨hu2.os, hu2.tape, hu2.output, hu2.size, hu2.block⟩
  go_wp2_with fail
  go_end0
  exact ⟨rfl, by rw [HR.out]; exact hb2, HU1.out⟩

theorem prByte_any (b : Nat) (l : List UInt8) (sg : Bool) (c : Int) (w : World) (h : BdAt w b l) (hl : l.length ≤ 10000000) (h0 : 0 ≤ c) (h1 : c ≤ 255) :
    Calls Tryd.prog 28 #[.pointer (some ⟨b, 0, none⟩), .int .u8 c, .string (sgL sg)] w (PrOut b l (Sp.shown c sg) w) := by
  by_cases hn : c = 10
  · subst hn; exact prByte_n b l sg w h hl
  by_cases ht : c = 9
  · subst ht; exact prByte_t b l sg w h hl
  by_cases hx : c < 33 ∨ 126 < c
  · exact prByte_x b l sg c w h hl h0 h1 hn ht hx
  cases hs : isSign sg c with
  | true => exact prByte_s b l sg c w h hl (by omega) (by omega) hs
  | false => exact prByte_b b l sg c w h hl (by omega) (by omega) hs
end Go.Proofs.YtadmlifmcdnhnaaDoor

set_option linter.unusedSimpArgs false
set_option linter.unusedVariables false
namespace Go.Proofs.YtadmlifmcdnhnaaDoor
open Go.RowKit

/-- A set that lies somewhere: its four words. -/
structure SetIn (w : World) (p o : Nat) (f : Nat → Bool) : Prop where
  c0 : w.cell? ⟨p, o, none⟩ = some (.int .u64 (word f 0 64))
  c1 : w.cell? ⟨p, o + 1, none⟩ = some (.int .u64 (word f 64 64))
  c2 : w.cell? ⟨p, o + 2, none⟩ = some (.int .u64 (word f 128 64))
  c3 : w.cell? ⟨p, o + 3, none⟩ = some (.int .u64 (word f 192 64))

theorem bit_is (f : Nat → Bool) (b i : Nat) (hi : i < 64) : (bits BinOp.and IntKind.u64 ((word f b 64 : Nat) / 2 ^ i : Nat) 1 == 1) = f (b + i) := by
  have h := word_lt f b 64
  have h2 : word f b 64 / 2 ^ i < 18446744073709551616 := Nat.lt_of_le_of_lt (Nat.div_le_self _ _) (by omega)
  rw [show (1 : Int) = ((1 : Nat) : Int) from rfl, bits_and_u64_nat _ _ h2 (by omega)]
  rw [Nat.and_one_is_mod]
  have e := word_bit f b 64 i hi
  rw [Nat.testBit_eq_decide_div_mod_eq] at e
  rw [← e, Bool.eq_iff_iff]
  simp only [beq_iff_eq, decide_eq_true_eq]
  omega

theorem bit_int (f : Nat → Bool) (b i c : Nat) (hi : i < 64) (hc : c = b + i) : (bits BinOp.and IntKind.u64 (((word f b 64 : Nat) : Int) / 2 ^ i) 1 == 1) = f c := by
  rw [hc, ← bit_is f b i hi]
  congr 2

set_option maxHeartbeats 400000 in
theorem tHas_any (p o : Nat) (f : Nat → Bool) (c : Nat) (w : World) (h : SetIn w p o f) (hc : c < 256) :
    Calls Tryd.prog 44 #[.pointer (some ⟨p, o, none⟩), .int .u8 c] w fun e w' => e = .returned (.bool (f c)) ∧ w' = w := by
  obtain ⟨c0, c1, c2, c3⟩ := h
  obtain ⟨j, i, hj, hi, hij⟩ : ∃ j i, j < 4 ∧ i < 64 ∧ c = 64 * j + i := ⟨c / 64, c % 64, by omega, by omega, by omega⟩
  have HIJ : Hid (c = 64 * j + i) := hij
  have hq : Int.tdiv (c : Int) 64 = (j : Int) := by rw [Int.tdiv_eq_ediv_of_nonneg (by omega)]; omega
  have hr : Int.tmod (c : Int) 64 = (i : Int) := by rw [Int.tmod_eq_emod_of_nonneg (by omega)]; omega
  clear hij
  rcases (by omega : j = 0 ∨ j = 1 ∨ j = 2 ∨ j = 3) with rfl | rfl | rfl | rfl
  all_goals
    go_enter Tryd.func44, Tryd.ntmps44
    go_wp2
    go_ret
    exact ⟨ret_bool (bit_int f _ i c hi (by rw [HIJ.out])), rfl⟩

theorem tHas_v (p o : Nat) (f : Nat → Bool) (c : Nat) (v : Bool) (w : World) (h : SetIn w p o f) (hc : c < 256) (hv : f c = v) :
    Calls Tryd.prog 44 #[.pointer (some ⟨p, o, none⟩), .int .u8 c] w fun e w' => e = .returned (.bool v) ∧ w' = w := by
  rw [← hv]; exact tHas_any p o f c w h hc

theorem runLast_stop (f : Nat → Bool) (n c : Nat) (h : ¬ (c < 255 ∧ f (c + 1) = true)) : Sp.runLast f n c = c := by
  cases n with
  | zero => rfl
  | succ n => unfold Sp.runLast; rw [if_neg h]

structure PRunInv (f : Nat → Bool) (c : Nat) (w : World) (gn : Nat) (v : Value) (wr : World) : Prop where
  st : ∃ cc : Nat, v = .int .i64 cc ∧ wr = w ∧ cc ≤ 255 ∧ 255 ≤ gn + cc ∧ Sp.runLast f 256 c = Sp.runLast f (gn + 1) cc

set_option maxHeartbeats 800000 in
theorem prRun_any (p o : Nat) (f : Nat → Bool) (c : Nat) (w : World) (h : SetIn w p o f) (hc : c < 256) :
    Calls Tryd.prog 45 #[.pointer (some ⟨p, o, none⟩), .int .i64 c] w fun e w' => e = .returned (.int .i64 (Sp.runLast f 256 c)) ∧ w' = w := by
  have HS : Hid (SetIn w p o f) := h
  clear h
  go_enter Tryd.func45, Tryd.ntmps45
  go_wp2_with fail
  go_loopg [1] 255 (fun gn v wr => PRunInv f c w gn v wr)
  case atStart => exact ⟨c, rfl, rfl, by omega, by omega, rfl⟩
  case round =>
    obtain ⟨cc, rfl, rfl, hcc, hgn, heq⟩ := hrel.st
    have HQ : Hid (Sp.runLast f 256 c = Sp.runLast f (gk + 1) cc) := heq
    clear heq
    by_cases hlt : cc < 255
    · cases hf : f (cc + 1) with
      | true =>
        have HF : Hid (f (cc + 1) = true) := hf
        obtain ⟨fuel, rfl⟩ : ∃ n, gk = n + 1 := ⟨gk - 1, by omega⟩
        have HR : Hid (Sp.runLast f 256 c = Sp.runLast f (fuel + 1) (cc + 1)) := by show _ = _; rw [HQ.out, Sp.runLast, if_pos ⟨hlt, hf⟩]
        clear hf
        have hlt' : (cc : Int) < 255 := by omega
        go_wp2_with fail
        refine (tHas_v p o f (cc + 1) true _ (by exact HS.out) (by omega) HF.out).mono ?_
        rintro e w1 ⟨rfl, hw1⟩
        rw [hw1]
        clear hw1 w1
        go_wp2_with fail
        go_roundg fuel
        case measure => omega
        case rel => exact ⟨cc + 1, int_eq (by omega), rfl, by omega, by omega, HR.out⟩
      | false =>
        have HF : Hid (f (cc + 1) = false) := hf
        have HR : Hid (Sp.runLast f 256 c = cc) := by show _ = _; rw [HQ.out]; exact runLast_stop f _ cc (fun q => by rw [hf] at q; exact absurd q.2 (by simp))
        clear hf
        have hlt' : (cc : Int) < 255 := by omega
        go_wp2_with fail
        refine (tHas_v p o f (cc + 1) false _ (by exact HS.out) (by omega) HF.out).mono ?_
        rintro e w1 ⟨rfl, hw1⟩
        rw [hw1]
        clear hw1 w1
        go_wp2_with fail
        go_ret
        exact ⟨ret_int (by rw [HR.out]), rfl⟩
    · have HR : Hid (Sp.runLast f 256 c = cc) := by show _ = _; rw [HQ.out]; exact runLast_stop f _ cc (fun q => hlt q.1)
      have hlt' : ¬ (cc : Int) < 255 := by omega
      go_wp2_with fail
      go_ret
      exact ⟨ret_int (by rw [HR.out]), rfl⟩

set_option maxHeartbeats 800000 in
theorem prItem_any (b : Nat) (l : List UInt8) (c d : Nat) (w : World) (h : BdAt w b l) (hl : l.length ≤ 9000000) (hcd : c ≤ d) (hd : d ≤ 255) :
    Calls Tryd.prog 46 #[.pointer (some ⟨b, 0, none⟩), .int .u8 c, .int .u8 d] w (PrOut b l (Sp.piece c d) w) := by
  have hh : Hid (BdAt w b l) := h
  clear h
  have hs1 := Sp.shown_le (c : Int) true
  have hs2 := Sp.shown_le (d : Int) true
  by_cases e1 : d = c
  · subst e1
    have HR : Hid (Sp.piece d d = Sp.shown d true) := by show _ = _; unfold Sp.piece; rw [if_pos rfl]
    go_enter Tryd.func46, Tryd.ntmps46
    go_wp2_with fail
    refine (prByte_any b l true d _ (by exact hh.out) (by omega) (by omega) (by omega)).mono ?_
    rintro e w1 ⟨rfl, hb1, hu1⟩
    go_wp2_with fail
    go_end0
    exact ⟨rfl, by rw [HR.out]; exact hb1, hu1⟩
  · have hne : ((c : Int) == (d : Int)) = false := by simp; omega
    by_cases e2 : d = c + 1
    · have HR : Hid (Sp.piece c d = Sp.shown c true ++ Sp.shown d true) := by show _ = _; unfold Sp.piece; rw [if_neg e1, if_pos e2]
      have hsub : ¬ (1 : Int) < (d : Int) - c := by omega
      clear e1 e2
      go_enter Tryd.func46, Tryd.ntmps46
      go_wp2_with fail
      refine (prByte_any b l true c _ (by exact hh.out) (by omega) (by omega) (by omega)).mono ?_
      rintro e w1 ⟨rfl, hb1, hu1⟩
      have HB1 : Hid (BdAt w1 b (l ++ Sp.shown c true)) := hb1
      have HU1 : Hid (Below b w w1) := hu1
      clear hb1 hu1
      go_wp2_with fail
      refine (prByte_any b (l ++ Sp.shown c true) true d _ (by exact HB1.out) (by simp; omega) (by omega) (by omega)).mono ?_
      rintro e w2 ⟨rfl, hb2, hu2⟩
      go_wp2_with fail
      go_end0
      exact ⟨rfl, by rw [HR.out, ← List.append_assoc]; exact hb2, HU1.out.trans hu2⟩
    · have HR : Hid (Sp.piece c d = Sp.shown c true ++ [45] ++ Sp.shown d true) := by show _ = _; unfold Sp.piece; rw [if_neg e1, if_neg e2]
      have hsub : (1 : Int) < (d : Int) - c := by omega
      clear e1 e2
      go_enter Tryd.func46, Tryd.ntmps46
      go_wp2_with fail
      refine (prByte_any b l true c _ (by exact hh.out) (by omega) (by omega) (by omega)).mono ?_
      rintro e w1 ⟨rfl, hb1, hu1⟩
      have HB1 : Hid (BdAt w1 b (l ++ Sp.shown c true)) := hb1
      have HU1 : Hid (Below b w w1) := hu1
      clear hb1 hu1
      go_wp2_with fail
      refine (wb_any b (l ++ Sp.shown c true) 45 _ (by exact HB1.out) (by simp; omega)).mono ?_
      rintro e w2 ⟨rfl, hb2, hu2⟩
      have HB2 : Hid (BdAt w2 b (l ++ Sp.shown c true ++ [45])) := hb2
      have HU2 : Hid (Below b w w2) := HU1.out.trans hu2
      clear hb2 hu2
      go_wp2_with fail
      refine (prByte_any b (l ++ Sp.shown c true ++ [45]) true d _ (by exact HB2.out) (by simp; omega) (by omega) (by omega)).mono ?_
      rintro e w3 ⟨rfl, hb3, hu3⟩
      go_wp2_with fail
      go_end0
      exact ⟨rfl, by rw [HR.out]; simpa using hb3, HU2.out.trans hu3⟩
end Go.Proofs.YtadmlifmcdnhnaaDoor
