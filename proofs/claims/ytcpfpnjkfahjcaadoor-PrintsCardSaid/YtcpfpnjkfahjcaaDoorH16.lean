import Derived.Test.YtcpfpnjkfahjcaaDoorH15
import Derived.Test.YtcpfpnjkfahjcaaDoorH09
set_option linter.unusedSimpArgs false
set_option linter.unusedVariables false
namespace Go.Proofs.YtcpfpnjkfahjcaaDoor
open Go.RowKit

theorem runLast_stop (f : Nat → Bool) (n c : Nat) (h : ¬ (c < 255 ∧ f (c + 1) = true)) : Sp.runLast f n c = c := by
  cases n with
  | zero => rfl
  | succ n => unfold Sp.runLast; rw [if_neg h]

structure PRunInv (f : Nat → Bool) (c : Nat) (w : World) (gn : Nat) (v : Value) (wr : World) : Prop where
  st : ∃ cc : Nat, v = .int .i64 cc ∧ wr = w ∧ cc ≤ 255 ∧ 255 ≤ gn + cc ∧ Sp.runLast f 256 c = Sp.runLast f (gn + 1) cc

set_option maxHeartbeats 800000 in
theorem prRun_any (p o : Nat) (f : Nat → Bool) (c : Nat) (w : World) (h : SetIn w p o f) (hc : c < 256) :
    Calls Tryd.prog 45 #[.pointer (some ⟨p, o, none⟩), .int .i64 c] w fun e w' => e = .returned (.int .i64 (Sp.runLast f 256 c)) ∧ w' = w := by
  have HS : Hid (SetIn w p o f) := h
  clear h
  go_enter Tryd.func45, Tryd.ntmps45
  go_wp2_with fail
  go_loopg [1] 255 (fun gn v wr => PRunInv f c w gn v wr)
  case atStart => exact ⟨c, rfl, rfl, by omega, by omega, rfl⟩
  case round =>
    obtain ⟨cc, rfl, rfl, hcc, hgn, heq⟩ := hrel.st
    have HQ : Hid (Sp.runLast f 256 c = Sp.runLast f (gk + 1) cc) := heq
    clear heq
    by_cases hlt : cc < 255
    · cases hf : f (cc + 1) with
      | true =>
        have HF : Hid (f (cc + 1) = true) := hf
        obtain ⟨fuel, rfl⟩ : ∃ n, gk = n + 1 := ⟨gk - 1, by omega⟩
        have HR : Hid (Sp.runLast f 256 c = Sp.runLast f (fuel + 1) (cc + 1)) := by show _ = _; rw [HQ.out, Sp.runLast, if_pos ⟨hlt, hf⟩]
        clear hf
        have hlt' : (cc : Int) < 255 := by omega
        go_wp2_with fail
        refine (tHas_v p o f (cc + 1) true _ (by exact HS.out) (by omega) HF.out).mono ?_
        rintro e w1 ⟨rfl, hw1⟩
        rw [hw1]
        clear hw1 w1
        go_wp2_with fail
        go_roundg fuel
        case measure => omega
        case rel => exact ⟨cc + 1, int_eq (by omega), rfl, by omega, by omega, HR.out⟩
      | false =>
        have HF : Hid (f (cc + 1) = false) := hf
        have HR : Hid (Sp.runLast f 256 c = cc) := by show _ = _; rw [HQ.out]; exact runLast_stop f _ cc (fun q => by rw [hf] at q; exact absurd q.2 (by simp))
        clear hf
        have hlt' : (cc : Int) < 255 := by omega
        go_wp2_with fail
        refine (tHas_v p o f (cc + 1) false _ (by exact HS.out) (by omega) HF.out).mono ?_
        rintro e w1 ⟨rfl, hw1⟩
        rw [hw1]
        clear hw1 w1
        go_wp2_with fail
        go_ret
        exact ⟨ret_int (by rw [HR.out]), rfl⟩
    · have HR : Hid (Sp.runLast f 256 c = cc) := by show _ = _; rw [HQ.out]; exact runLast_stop f _ cc (fun q => hlt q.1)
      have hlt' : ¬ (cc : Int) < 255 := by omega
      go_wp2_with fail
      go_ret
      exact ⟨ret_int (by rw [HR.out]), rfl⟩

set_option maxHeartbeats 800000 in
theorem prItem_any (b : Nat) (l : List UInt8) (c d : Nat) (w : World) (h : BdAt w b l) (hl : l.length ≤ 9000000) (hcd : c ≤ d) (hd : d ≤ 255) :
    Calls Tryd.prog 46 #[.pointer (some ⟨b, 0, none⟩), .int .u8 c, .int .u8 d] w (PrOut b l (Sp.piece c d) w) := by
  have hh : Hid (BdAt w b l) := h
  clear h
  have hs1 := Sp.shown_le (c : Int) true
  have hs2 := Sp.shown_le (d : Int) true
  by_cases e1 : d = c
  · subst e1
    have HR : Hid (Sp.piece d d = Sp.shown d true) := by show _ = _; unfold Sp.piece; rw [if_pos rfl]
    go_enter Tryd.func46, Tryd.ntmps46
    go_wp2_with fail
    refine (prByte_any b l true d _ (by exact hh.out) (by omega) (by omega) (by omega)).mono ?_
    rintro e w1 ⟨rfl, hb1, hu1⟩
    go_wp2_with fail
    go_end0
    exact ⟨rfl, by rw [HR.out]; exact hb1, hu1⟩
  · have hne : ((c : Int) == (d : Int)) = false := by simp; omega
    by_cases e2 : d = c + 1
    · have HR : Hid (Sp.piece c d = Sp.shown c true ++ Sp.shown d true) := by show _ = _; unfold Sp.piece; rw [if_neg e1, if_pos e2]
      have hsub : ¬ (1 : Int) < (d : Int) - c := by omega
      clear e1 e2
      go_enter Tryd.func46, Tryd.ntmps46
      go_wp2_with fail
      refine (prByte_any b l true c _ (by exact hh.out) (by omega) (by omega) (by omega)).mono ?_
      rintro e w1 ⟨rfl, hb1, hu1⟩
      have HB1 : Hid (BdAt w1 b (l ++ Sp.shown c true)) := hb1
      have HU1 : Hid (Below b w w1) := hu1
      clear hb1 hu1
      go_wp2_with fail
      refine (prByte_any b (l ++ Sp.shown c true) true d _ (by exact HB1.out) (by simp; omega) (by omega) (by omega)).mono ?_
      rintro e w2 ⟨rfl, hb2, hu2⟩
      go_wp2_with fail
      go_end0
      exact ⟨rfl, by rw [HR.out, ← List.append_assoc]; exact hb2, HU1.out.trans hu2⟩
    · have HR : Hid (Sp.piece c d = Sp.shown c true ++ [45] ++ Sp.shown d true) := by show _ = _; unfold Sp.piece; rw [if_neg e1, if_neg e2]
      have hsub : (1 : Int) < (d : Int) - c := by omega
      clear e1 e2
      go_enter Tryd.func46, Tryd.ntmps46
      go_wp2_with fail
      refine (prByte_any b l true c _ (by exact hh.out) (by omega) (by omega) (by omega)).mono ?_
      rintro e w1 ⟨rfl, hb1, hu1⟩
      have HB1 : Hid (BdAt w1 b (l ++ Sp.shown c true)) := hb1
      have HU1 : Hid (Below b w w1) := hu1
      clear hb1 hu1
      go_wp2_with fail
      refine (wb_any b (l ++ Sp.shown c true) 45 _ (by exact HB1.out) (by simp; omega)).mono ?_
      rintro e w2 ⟨rfl, hb2, hu2⟩
      have HB2 : Hid (BdAt w2 b (l ++ Sp.shown c true ++ [45])) := hb2
      have HU2 : Hid (Below b w w2) := HU1.out.trans hu2
      clear hb2 hu2
      go_wp2_with fail
      refine (prByte_any b (l ++ Sp.shown c true ++ [45]) true d _ (by exact HB2.out) (by simp; omega) (by omega) (by omega)).mono ?_
      rintro e w3 ⟨rfl, hb3, hu3⟩
      go_wp2_with fail
      go_end0
      exact ⟨rfl, by rw [HR.out]; simpa using hb3, HU2.out.trans hu3⟩
end Go.Proofs.YtcpfpnjkfahjcaaDoor

set_option linter.unusedSimpArgs false
set_option linter.unusedVariables false
namespace Go.Proofs.YtcpfpnjkfahjcaaDoor
open Go.RowKit

theorem cell_same {w w' : World} {p : Nat} (h : w'.heap[p]? = w.heap[p]?) (o : Nat) : w'.cell? ⟨p, o, none⟩ = w.cell? ⟨p, o, none⟩ := by simp [World.cell?, h]
theorem SetIn.below {w w' : World} {b p o : Nat} {f : Nat → Bool} (h : SetIn w p o f) (hb : Below b w w') (hp : p < b) : SetIn w' p o f :=
  ⟨(cell_same (hb.block p hp) _).trans h.c0, (cell_same (hb.block p hp) _).trans h.c1, (cell_same (hb.block p hp) _).trans h.c2, (cell_same (hb.block p hp) _).trans h.c3⟩
theorem BdAt.drewN {w : World} {b : Nat} {l : List UInt8} (h : BdAt w b l) (n : Nat) : BdAt (w.drewN n) b l := h

structure PListdInv (b p : Nat) (f : Nat → Bool) (l : List UInt8) (w : World) (gn : Nat) (v : Value) (wr : World) : Prop where
  st : ∃ (cc : Nat) (cur : List UInt8), v = .int .i64 cc ∧ cc ≤ 256 ∧ 257 ≤ gn + cc ∧ BdAt wr b cur ∧ Below b w wr ∧ l ++ Sp.listed f = cur ++ Sp.listedFrom f gn cc ∧ cur.length ≤ l.length + 9 * cc

set_option maxHeartbeats 2000000 in
theorem prList_core (b : Nat) (l : List UInt8) (p : Nat) (f : Nat → Bool) (nt : Bool) (w : World) (h : BdAt w b l) (hl : l.length ≤ 8000000) (hp : p < b) (hs : SetIn w p 4 f) (h8 : w.cell? ⟨p, 8, none⟩ = some (.bool nt)) :
    Calls Tryd.prog 30 #[.pointer (some ⟨b, 0, none⟩), .pointer (some ⟨p, 0, none⟩)] w (PrOut b l ((if nt then [91, 94] else [91]) ++ Sp.listed f ++ [93]) w) := by
  have hh : Hid (BdAt w b l) := h
  have HS : Hid (SetIn w p 4 f) := hs
  clear h hs
  have hl0 := Sp.listed_le f
  cases nt with
  | true =>
    show Calls _ _ _ _ (PrOut b l ([91, 94] ++ Sp.listed f ++ [93]) w)
    go_enter Tryd.func30, Tryd.ntmps30
    go_wp2_with fail
    refine (wb_any b l 91 _ (by exact hh.out) (by omega)).mono ?_
    rintro e w1 ⟨rfl, hb1, hu1⟩
    have HB1 : Hid (BdAt w1 b (l ++ [91])) := hb1
    have HU1 : Hid (Below b w w1) := hu1
    have h8' : w1.cell? ⟨p, 8, none⟩ = some (.bool true) := (cell_same (hu1.block p hp) 8).trans h8
    clear hb1 hu1 h8
    go_wp2_with fail
    refine (wb_any b (l ++ [91]) 94 _ (by exact HB1.out) (by simp; omega)).mono ?_
    rintro e w2 ⟨rfl, hb2, hu2⟩
    have HB2 : Hid (BdAt w2 b (l ++ [91] ++ [94])) := hb2
    have HU2 : Hid (Below b w w2) := HU1.out.trans hu2
    clear hb2 hu2 h8'
    obtain ⟨l2, HL2⟩ : ∃ l2, Hid (l2 = l ++ [91] ++ [94]) := ⟨l ++ [91] ++ [94], (rfl : l ++ [91] ++ [94] = _)⟩
    rw [← HL2.out] at HB2
    have hl2 : l2.length ≤ 8000002 := by rw [HL2.out]; simp; omega
    go_wp2_with fail
    go_loopg [4] 257 (fun gn v wr => PListdInv b p f l2 w gn v wr)
    case atStart => exact ⟨0, l2, rfl, by omega, by omega, HB2.out, HU2.out, rfl, by omega⟩
    case round =>
      obtain ⟨cc, cur, rfl, hcc, hgn, hb, hu, heq, hlen⟩ := hrel.st
      clear HB2 HU2 hh hrel
      have HB : Hid (BdAt wr b cur) := hb
      have HU : Hid (Below b w wr) := hu
      have HSr : Hid (SetIn wr p 4 f) := HS.out.below hu hp
      clear hb hu
      by_cases hlt : cc < 256
      · obtain ⟨fuel, rfl⟩ : ∃ n, gk = n + 1 := ⟨gk - 1, by omega⟩
        have HQ : Hid (l2 ++ Sp.listed f = cur ++ Sp.listedFrom f (fuel + 1) cc) := heq
        clear heq
        have hlt' : (cc : Int) < 256 := by omega
        cases hf : f cc with
        | true =>
          have HF : Hid (f cc = true) := hf
          obtain ⟨la, HLA⟩ : ∃ la, Hid (la = Sp.runLast f 256 cc) := ⟨_, (rfl : Sp.runLast f 256 cc = _)⟩
          have hla0 : cc ≤ la := by rw [HLA.out]; exact Sp.runLast_ge f 256 cc
          have hla1 : la ≤ 255 := by rw [HLA.out]; exact Sp.runLast_le f 256 cc (by omega)
          have HR : Hid (l2 ++ Sp.listed f = (cur ++ Sp.piece cc la) ++ Sp.listedFrom f fuel (la + 1)) := by
            show _ = _; rw [HQ.out, Sp.listedFrom, if_pos hlt, hf, if_pos rfl, ← HLA.out, List.append_assoc]
          have hpl := Sp.piece_le cc la
          clear hf
          go_wp2_with fail
          refine (tHas_v p 4 f cc true _ (by exact HSr.out) hlt HF.out).mono ?_
          rintro e w3 ⟨rfl, hw3⟩
          rw [hw3]
          clear hw3 w3
          go_wp2_with fail
          refine (prRun_any p 4 f cc _ (by exact HSr.out) hlt).mono ?_
          rw [← HLA.out]
          rintro e w3 ⟨rfl, hw3⟩
          rw [hw3]
          clear hw3 w3
          go_wp2_with fail
          refine (prItem_any b cur cc la _ (by exact HB.out) (by omega) hla0 hla1).mono ?_
          rintro e w4 ⟨rfl, hb4, hu4⟩
          have HB4 : Hid (BdAt w4 b (cur ++ Sp.piece cc la)) := hb4
          have HU4 : Hid (Below b w w4) := HU.out.trans hu4
          clear hb4 hu4
          go_wp2_with fail
          go_roundg fuel
          case measure => omega
          case rel => exact ⟨la + 1, _, int_eq (by omega), by omega, by omega, HB4.out, HU4.out, HR.out, by simp; omega⟩
        | false =>
          have HF : Hid (f cc = false) := hf
          have HR : Hid (l2 ++ Sp.listed f = cur ++ Sp.listedFrom f fuel (cc + 1)) := by
            show _ = _; rw [HQ.out, Sp.listedFrom, if_pos hlt, hf, if_neg (by simp)]
          clear hf
          go_wp2_with fail
          refine (tHas_v p 4 f cc false _ (by exact HSr.out) hlt HF.out).mono ?_
          rintro e w3 ⟨rfl, hw3⟩
          rw [hw3]
          clear hw3 w3
          go_wp2_with fail
          go_roundg fuel
          case measure => omega
          case rel => exact ⟨cc + 1, cur, int_eq (by omega), by omega, by omega, HB.out, HU.out, HR.out, by omega⟩
      · have HQ : Hid (l2 ++ Sp.listed f = cur) := by show _ = _; rw [heq, Sp.listedFrom_out f gk cc (by omega), List.append_nil]
        have hlt' : ¬ (cc : Int) < 256 := by omega
        clear heq
        go_wp2_with fail
        refine (wb_any b cur 93 _ (by exact HB.out) (by omega)).mono ?_
        rintro e w4 ⟨rfl, hb4, hu4⟩
        have HB4 : Hid (BdAt w4 b (cur ++ [93])) := hb4
        have HU4 : Hid (Below b w w4) := HU.out.trans hu4
        clear hb4 hu4
        go_wp2_with fail
        go_end0
        refine ⟨rfl, ?_, HU4.out⟩
        have := HB4.out
        rw [← HQ.out, HL2.out] at this
        simpa using this
  | false =>
    show Calls _ _ _ _ (PrOut b l ([91] ++ Sp.listed f ++ [93]) w)
    go_enter Tryd.func30, Tryd.ntmps30
    go_wp2_with fail
    refine (wb_any b l 91 _ (by exact hh.out) (by omega)).mono ?_
    rintro e w2 ⟨rfl, hb2, hu2⟩
    have HB2 : Hid (BdAt w2 b (l ++ [91])) := hb2
    have HU2 : Hid (Below b w w2) := hu2
    have h8' : w2.cell? ⟨p, 8, none⟩ = some (.bool false) := (cell_same (hu2.block p hp) 8).trans h8
    clear hb2 hu2 h8
    obtain ⟨l2, HL2⟩ : ∃ l2, Hid (l2 = l ++ [91]) := ⟨l ++ [91], (rfl : l ++ [91] = _)⟩
    rw [← HL2.out] at HB2
    have hl2 : l2.length ≤ 8000002 := by rw [HL2.out]; simp; omega
    go_wp2_with fail
    go_loopg [4] 257 (fun gn v wr => PListdInv b p f l2 w gn v wr)
    case atStart => exact ⟨0, l2, rfl, by omega, by omega, HB2.out, HU2.out, rfl, by omega⟩
    case round =>
      obtain ⟨cc, cur, rfl, hcc, hgn, hb, hu, heq, hlen⟩ := hrel.st
      clear HB2 HU2 hh hrel
      have HB : Hid (BdAt wr b cur) := hb
      have HU : Hid (Below b w wr) := hu
      have HSr : Hid (SetIn wr p 4 f) := HS.out.below hu hp
      clear hb hu
      by_cases hlt : cc < 256
      · obtain ⟨fuel, rfl⟩ : ∃ n, gk = n + 1 := ⟨gk - 1, by omega⟩
        have HQ : Hid (l2 ++ Sp.listed f = cur ++ Sp.listedFrom f (fuel + 1) cc) := heq
        clear heq
        have hlt' : (cc : Int) < 256 := by omega
        cases hf : f cc with
        | true =>
          have HF : Hid (f cc = true) := hf
          obtain ⟨la, HLA⟩ : ∃ la, Hid (la = Sp.runLast f 256 cc) := ⟨_, (rfl : Sp.runLast f 256 cc = _)⟩
          have hla0 : cc ≤ la := by rw [HLA.out]; exact Sp.runLast_ge f 256 cc
          have hla1 : la ≤ 255 := by rw [HLA.out]; exact Sp.runLast_le f 256 cc (by omega)
          have HR : Hid (l2 ++ Sp.listed f = (cur ++ Sp.piece cc la) ++ Sp.listedFrom f fuel (la + 1)) := by
            show _ = _; rw [HQ.out, Sp.listedFrom, if_pos hlt, hf, if_pos rfl, ← HLA.out, List.append_assoc]
          have hpl := Sp.piece_le cc la
          clear hf
          go_wp2_with fail
          refine (tHas_v p 4 f cc true _ (by exact HSr.out) hlt HF.out).mono ?_
          rintro e w3 ⟨rfl, hw3⟩
          rw [hw3]
          clear hw3 w3
          go_wp2_with fail
          refine (prRun_any p 4 f cc _ (by exact HSr.out) hlt).mono ?_
          rw [← HLA.out]
          rintro e w3 ⟨rfl, hw3⟩
          rw [hw3]
          clear hw3 w3
          go_wp2_with fail
          refine (prItem_any b cur cc la _ (by exact HB.out) (by omega) hla0 hla1).mono ?_
          rintro e w4 ⟨rfl, hb4, hu4⟩
          have HB4 : Hid (BdAt w4 b (cur ++ Sp.piece cc la)) := hb4
          have HU4 : Hid (Below b w w4) := HU.out.trans hu4
          clear hb4 hu4
          go_wp2_with fail
          go_roundg fuel
          case measure => omega
          case rel => exact ⟨la + 1, _, int_eq (by omega), by omega, by omega, HB4.out, HU4.out, HR.out, by simp; omega⟩
        | false =>
          have HF : Hid (f cc = false) := hf
          have HR : Hid (l2 ++ Sp.listed f = cur ++ Sp.listedFrom f fuel (cc + 1)) := by
            show _ = _; rw [HQ.out, Sp.listedFrom, if_pos hlt, hf, if_neg (by simp)]
          clear hf
          go_wp2_with fail
          refine (tHas_v p 4 f cc false _ (by exact HSr.out) hlt HF.out).mono ?_
          rintro e w3 ⟨rfl, hw3⟩
          rw [hw3]
          clear hw3 w3
          go_wp2_with fail
          go_roundg fuel
          case measure => omega
          case rel => exact ⟨cc + 1, cur, int_eq (by omega), by omega, by omega, HB.out, HU.out, HR.out, by omega⟩
      · have HQ : Hid (l2 ++ Sp.listed f = cur) := by show _ = _; rw [heq, Sp.listedFrom_out f gk cc (by omega), List.append_nil]
        have hlt' : ¬ (cc : Int) < 256 := by omega
        clear heq
        go_wp2_with fail
        refine (wb_any b cur 93 _ (by exact HB.out) (by omega)).mono ?_
        rintro e w4 ⟨rfl, hb4, hu4⟩
        have HB4 : Hid (BdAt w4 b (cur ++ [93])) := hb4
        have HU4 : Hid (Below b w w4) := HU.out.trans hu4
        clear hb4 hu4
        go_wp2_with fail
        go_end0
        refine ⟨rfl, ?_, HU4.out⟩
        have := HB4.out
        rw [← HQ.out, HL2.out] at this
        simpa using this
end Go.Proofs.YtcpfpnjkfahjcaaDoor

set_option linter.unusedSimpArgs false
set_option linter.unusedVariables false
namespace Go.Proofs.YtcpfpnjkfahjcaaDoor
open Go.RowKit

def cntMN (m n : Int) : List UInt8 := Sp.cnt { Sp.blank with min := m, max := n }
theorem cnt_is (a : Lab) : Sp.cnt a = cntMN a.min a.max := rfl
theorem itoa_v (m : Int) (h0 : 0 ≤ m) (h1 : m ≤ 20) (w : World) :
    Calls Tryd.prog 59 #[.int .i64 m] w fun e w' => e = .returned (.string (str (Sp.digs m))) ∧ w' = w := by
  obtain ⟨k, rfl⟩ := Int.eq_ofNat_of_zero_le h0
  rw [← dec_is (by omega : k < 100)]
  exact itoa_any k (by omega) w

set_option maxHeartbeats 800000 in
theorem prBounds_any (b : Nat) (l : List UInt8) (m n : Int) (w : World) (h : BdAt w b l) (hl : l.length ≤ 8000000) (m0 : 0 ≤ m) (m1 : m ≤ 20) (n0 : -1 ≤ n) (n1 : n ≤ 20) :
    Calls Tryd.prog 47 #[.pointer (some ⟨b, 0, none⟩), .int .i64 m, .int .i64 n] w (PrOut b l ([123] ++ Sp.digs m ++ (if n = m then [125] else if n < 0 then [44, 125] else [44] ++ Sp.digs n ++ [125])) w) := by
  have hh : Hid (BdAt w b l) := h
  clear h
  have hs1 := Sp.digs_le m
  have hs2 := Sp.digs_le n
  by_cases e1 : n = m
  · subst e1
    rw [if_pos rfl]
    go_enter Tryd.func47, Tryd.ntmps47
    go_wp2_with fail
    refine (wb_any b l 123 _ (by exact hh.out) (by omega)).mono ?_
    rintro e w1 ⟨rfl, hb1, hu1⟩
    have HB1 : Hid (BdAt w1 b (l ++ [123])) := hb1
    have HU1 : Hid (Below b w w1) := hu1
    clear hb1 hu1
    go_wp2_with fail
    refine (itoa_v n m0 m1 _).mono ?_
    rintro e w2 ⟨rfl, hw2⟩
    rw [hw2]
    clear hw2 w2
    go_wp2_with fail
    refine (ws_any b (l ++ [123]) _ _ (by exact HB1.out) (by simp; omega) (by show (Sp.digs n).toArray.size ≤ _; simp; omega)).mono ?_
    rintro e w3 ⟨rfl, hb3, hu3⟩
    have HB3 : Hid (BdAt w3 b (l ++ [123] ++ Sp.digs n)) := by show BdAt _ _ _; simpa [str] using hb3
    have HU3 : Hid (Below b w w3) := HU1.out.trans hu3
    clear hb3 hu3
    go_wp2_with fail
    refine (wb_any b (l ++ [123] ++ Sp.digs n) 125 _ (by exact HB3.out) (by simp; omega)).mono ?_
    rintro e w4 ⟨rfl, hb4, hu4⟩
    go_wp2_with fail
    go_end0
    exact ⟨rfl, by simpa using hb4, HU3.out.trans hu4⟩
  · have hne : (n != m) = true := by simpa using e1
    rw [if_neg e1]
    by_cases e2 : n < 0
    · rw [if_pos e2]
      have e2' : n = -1 := by omega
      subst e2'
      go_enter Tryd.func47, Tryd.ntmps47
      go_wp2_with fail
      refine (wb_any b l 123 _ (by exact hh.out) (by omega)).mono ?_
      rintro e w1 ⟨rfl, hb1, hu1⟩
      have HB1 : Hid (BdAt w1 b (l ++ [123])) := hb1
      have HU1 : Hid (Below b w w1) := hu1
      clear hb1 hu1
      go_wp2_with fail
      refine (itoa_v m m0 m1 _).mono ?_
      rintro e w2 ⟨rfl, hw2⟩
      rw [hw2]
      clear hw2 w2
      go_wp2_with fail
      refine (ws_any b (l ++ [123]) _ _ (by exact HB1.out) (by simp; omega) (by show (Sp.digs m).toArray.size ≤ _; simp; omega)).mono ?_
      rintro e w3 ⟨rfl, hb3, hu3⟩
      have HB3 : Hid (BdAt w3 b (l ++ [123] ++ Sp.digs m)) := by show BdAt _ _ _; simpa [str] using hb3
      have HU3 : Hid (Below b w w3) := HU1.out.trans hu3
      clear hb3 hu3
      go_wp2_with fail
      refine (wb_any b (l ++ [123] ++ Sp.digs m) 44 _ (by exact HB3.out) (by simp; omega)).mono ?_
      rintro e w4 ⟨rfl, hb4, hu4⟩
      have HB4 : Hid (BdAt w4 b (l ++ [123] ++ Sp.digs m ++ [44])) := hb4
      have HU4 : Hid (Below b w w4) := HU3.out.trans hu4
      clear hb4 hu4
      go_wp2_with fail
      refine (wb_any b (l ++ [123] ++ Sp.digs m ++ [44]) 125 _ (by exact HB4.out) (by simp; omega)).mono ?_
      rintro e w5 ⟨rfl, hb5, hu5⟩
      go_wp2_with fail
      go_end0
      exact ⟨rfl, by simpa using hb5, HU4.out.trans hu5⟩
    · rw [if_neg e2]
      have hne2 : (n != -1) = true := by simp; omega
      go_enter Tryd.func47, Tryd.ntmps47
      go_wp2_with fail
      refine (wb_any b l 123 _ (by exact hh.out) (by omega)).mono ?_
      rintro e w1 ⟨rfl, hb1, hu1⟩
      have HB1 : Hid (BdAt w1 b (l ++ [123])) := hb1
      have HU1 : Hid (Below b w w1) := hu1
      clear hb1 hu1
      go_wp2_with fail
      refine (itoa_v m m0 m1 _).mono ?_
      rintro e w2 ⟨rfl, hw2⟩
      rw [hw2]
      clear hw2 w2
      go_wp2_with fail
      refine (ws_any b (l ++ [123]) _ _ (by exact HB1.out) (by simp; omega) (by show (Sp.digs m).toArray.size ≤ _; simp; omega)).mono ?_
      rintro e w3 ⟨rfl, hb3, hu3⟩
      have HB3 : Hid (BdAt w3 b (l ++ [123] ++ Sp.digs m)) := by show BdAt _ _ _; simpa [str] using hb3
      have HU3 : Hid (Below b w w3) := HU1.out.trans hu3
      clear hb3 hu3
      go_wp2_with fail
      refine (wb_any b (l ++ [123] ++ Sp.digs m) 44 _ (by exact HB3.out) (by simp; omega)).mono ?_
      rintro e w4 ⟨rfl, hb4, hu4⟩
      have HB4 : Hid (BdAt w4 b (l ++ [123] ++ Sp.digs m ++ [44])) := hb4
      have HU4 : Hid (Below b w w4) := HU3.out.trans hu4
      clear hb4 hu4
      go_wp2_with fail
      refine (itoa_v n (by omega) n1 _).mono ?_
      rintro e w2 ⟨rfl, hw2⟩
      rw [hw2]
      clear hw2 w2
      go_wp2_with fail
      refine (ws_any b (l ++ [123] ++ Sp.digs m ++ [44]) _ _ (by exact HB4.out) (by simp; omega) (by show (Sp.digs n).toArray.size ≤ _; simp; omega)).mono ?_
      rintro e w5 ⟨rfl, hb5, hu5⟩
      have HB5 : Hid (BdAt w5 b (l ++ [123] ++ Sp.digs m ++ [44] ++ Sp.digs n)) := by show BdAt _ _ _; simpa [str] using hb5
      have HU5 : Hid (Below b w w5) := HU4.out.trans hu5
      clear hb5 hu5
      go_wp2_with fail
      refine (wb_any b (l ++ [123] ++ Sp.digs m ++ [44] ++ Sp.digs n) 125 _ (by exact HB5.out) (by simp; omega)).mono ?_
      rintro e w6 ⟨rfl, hb6, hu6⟩
      go_wp2_with fail
      go_end0
      exact ⟨rfl, by simpa using hb6, HU5.out.trans hu6⟩

theorem cnt_1 : cntMN 0 (-1) = [42] := rfl
theorem cnt_2 : cntMN 1 (-1) = [43] := rfl
theorem cnt_3 : cntMN 0 1 = [63] := rfl
theorem cnt_4 {m n : Int} (m0 : 0 ≤ m) (h1 : ¬ (m = 0 ∧ n < 0)) (h2 : ¬ (m = 1 ∧ n < 0)) (h3 : ¬ (m = 0 ∧ n = 1)) : cntMN m n = [123] ++ Sp.digs m ++ (if n = m then [125] else if n < 0 then [44, 125] else [44] ++ Sp.digs n ++ [125]) := by
  unfold cntMN Sp.cnt
  simp only
  rw [if_neg (by omega), if_neg h1, if_neg h2, if_neg h3]
  by_cases e1 : n = m
  · subst e1; rw [if_neg (by omega), if_pos rfl, if_pos rfl]
  · rw [if_neg e1]
    by_cases e2 : n < 0
    · rw [if_pos e2, if_pos e2]
    · rw [if_neg e2, if_neg e2, if_neg (fun e => e1 e.symm)]; simp

set_option maxHeartbeats 800000 in
theorem prCount_any (b : Nat) (l : List UInt8) (m n : Int) (w : World) (h : BdAt w b l) (hl : l.length ≤ 8000000) (m0 : 0 ≤ m) (m1 : m ≤ 20) (n0 : -1 ≤ n) (n1 : n ≤ 20) :
    Calls Tryd.prog 32 #[.pointer (some ⟨b, 0, none⟩), .int .i64 m, .int .i64 n] w (PrOut b l (cntMN m n) w) := by
  have hh : Hid (BdAt w b l) := h
  clear h
  by_cases e1 : m = 0 ∧ n < 0
  · obtain ⟨rfl, e⟩ := e1
    have e2 : n = -1 := by omega
    subst e2
    rw [cnt_1]
    go_enter Tryd.func32, Tryd.ntmps32
    go_wp2_with fail
    refine (wb_any b l 42 _ (by exact hh.out) (by omega)).mono ?_
    rintro e w1 ⟨rfl, hb1, hu1⟩
    go_wp2_with fail
    go_end0
    exact ⟨rfl, hb1, hu1⟩
  by_cases e2 : m = 1 ∧ n < 0
  · obtain ⟨rfl, e⟩ := e2
    have e2 : n = -1 := by omega
    subst e2
    rw [cnt_2]
    go_enter Tryd.func32, Tryd.ntmps32
    go_wp2_with fail
    refine (wb_any b l 43 _ (by exact hh.out) (by omega)).mono ?_
    rintro e w1 ⟨rfl, hb1, hu1⟩
    go_wp2_with fail
    go_end0
    exact ⟨rfl, hb1, hu1⟩
  by_cases e3 : m = 0 ∧ n = 1
  · obtain ⟨rfl, rfl⟩ := e3
    rw [cnt_3]
    go_enter Tryd.func32, Tryd.ntmps32
    go_wp2_with fail
    refine (wb_any b l 63 _ (by exact hh.out) (by omega)).mono ?_
    rintro e w1 ⟨rfl, hb1, hu1⟩
    go_wp2_with fail
    go_end0
    exact ⟨rfl, hb1, hu1⟩
  rw [cnt_4 m0 e1 e2 e3]
  obtain ⟨new, HN⟩ : ∃ new, Hid (new = [123] ++ Sp.digs m ++ (if n = m then [125] else if n < 0 then [44, 125] else [44] ++ Sp.digs n ++ [125])) := ⟨_, (rfl : [123] ++ Sp.digs m ++ (if n = m then [125] else if n < 0 then [44, 125] else [44] ++ Sp.digs n ++ [125]) = _)⟩
  rw [← HN.out]
  have HE : Hid (¬ (m = 0 ∧ n < 0) ∧ ¬ (m = 1 ∧ n < 0) ∧ ¬ (m = 0 ∧ n = 1)) := ⟨e1, e2, e3⟩
  clear e1 e2 e3
  go_enter Tryd.func32, Tryd.ntmps32
  go_wp2_with fail
  · exfalso; have q1 := ‹m = 0›; have q2 := ‹(n == -1) = true›; have := HE.out; rw [beq_iff_eq] at q2; omega
  · exfalso; have q1 := ‹m = 0›; have q2 := ‹(n == 1) = true›; have := HE.out; rw [beq_iff_eq] at q2; omega
  · have q0 := ‹m = 0›
    subst q0
    refine (prBounds_any b l 0 n _ (by exact hh.out) hl (by omega) (by omega) n0 n1).mono ?_
    rw [← HN.out]
    rintro e w1 ⟨rfl, hb1, hu1⟩
    go_wp2_with fail
    go_end0
    exact ⟨rfl, hb1, hu1⟩
  · exfalso; have q1 := ‹m = 1›; have q2 := ‹(n == -1) = true›; have := HE.out; rw [beq_iff_eq] at q2; omega
  · have q1 := ‹m = 1›
    subst q1
    refine (prBounds_any b l 1 n _ (by exact hh.out) hl (by omega) (by omega) n0 n1).mono ?_
    rw [← HN.out]
    rintro e w1 ⟨rfl, hb1, hu1⟩
    go_wp2_with fail
    go_end0
    exact ⟨rfl, hb1, hu1⟩
  · refine (prBounds_any b l m n _ (by exact hh.out) hl (by omega) (by omega) n0 n1).mono ?_
    rw [← HN.out]
    rintro e w1 ⟨rfl, hb1, hu1⟩
    go_wp2_with fail
    go_end0
    exact ⟨rfl, hb1, hu1⟩
end Go.Proofs.YtcpfpnjkfahjcaaDoor
