import Derived.Test.YtadmlifmcdnhnaaDoorH15
set_option linter.unusedSimpArgs false
set_option linter.unusedVariables false
namespace Go.Proofs.YtadmlifmcdnhnaaDoor
open Go.RowKit

/-- A set that lies somewhere: its four words. -/
structure SetIn (w : World) (p o : Nat) (f : Nat → Bool) : Prop where
  c0 : w.cell? ⟨p, o, none⟩ = some (.int .u64 (word f 0 64))
  c1 : w.cell? ⟨p, o + 1, none⟩ = some (.int .u64 (word f 64 64))
  c2 : w.cell? ⟨p, o + 2, none⟩ = some (.int .u64 (word f 128 64))
  c3 : w.cell? ⟨p, o + 3, none⟩ = some (.int .u64 (word f 192 64))

theorem bit_is (f : Nat → Bool) (b i : Nat) (hi : i < 64) : (bits BinOp.and IntKind.u64 ((word f b 64 : Nat) / 2 ^ i : Nat) 1 == 1) = f (b + i) := by
  have h := word_lt f b 64
  have h2 : word f b 64 / 2 ^ i < 18446744073709551616 := Nat.lt_of_le_of_lt (Nat.div_le_self _ _) (by omega)
  rw [show (1 : Int) = ((1 : Nat) : Int) from rfl, bits_and_u64_nat _ _ h2 (by omega)]
  rw [Nat.and_one_is_mod]
  have e := word_bit f b 64 i hi
  rw [Nat.testBit_eq_decide_div_mod_eq] at e
  rw [← e, Bool.eq_iff_iff]
  simp only [beq_iff_eq, decide_eq_true_eq]
  omega

theorem bit_int (f : Nat → Bool) (b i c : Nat) (hi : i < 64) (hc : c = b + i) : (bits BinOp.and IntKind.u64 (((word f b 64 : Nat) : Int) / 2 ^ i) 1 == 1) = f c := by
  rw [hc, ← bit_is f b i hi]
  congr 2

set_option maxHeartbeats 400000 in
theorem tHas_any (p o : Nat) (f : Nat → Bool) (c : Nat) (w : World) (h : SetIn w p o f) (hc : c < 256) :
    Calls Tryd.prog 44 #[.pointer (some ⟨p, o, none⟩), .int .u8 c] w fun e w' => e = .returned (.bool (f c)) ∧ w' = w := by
  obtain ⟨c0, c1, c2, c3⟩ := h
  obtain ⟨j, i, hj, hi, hij⟩ : ∃ j i, j < 4 ∧ i < 64 ∧ c = 64 * j + i := ⟨c / 64, c % 64, by omega, by omega, by omega⟩
  have HIJ : Hid (c = 64 * j + i) := hij
  have hq : Int.tdiv (c : Int) 64 = (j : Int) := by rw [Int.tdiv_eq_ediv_of_nonneg (by omega)]; omega
  have hr : Int.tmod (c : Int) 64 = (i : Int) := by rw [Int.tmod_eq_emod_of_nonneg (by omega)]; omega
  clear hij
  rcases (by omega : j = 0 ∨ j = 1 ∨ j = 2 ∨ j = 3) with rfl | rfl | rfl | rfl
  all_goals
    go_enter Tryd.func44, Tryd.ntmps44
    go_wp2
    go_ret
    exact ⟨ret_bool (bit_int f _ i c hi (by rw [HIJ.out])), rfl⟩

theorem tHas_v (p o : Nat) (f : Nat → Bool) (c : Nat) (v : Bool) (w : World) (h : SetIn w p o f) (hc : c < 256) (hv : f c = v) :
    Calls Tryd.prog 44 #[.pointer (some ⟨p, o, none⟩), .int .u8 c] w fun e w' => e = .returned (.bool v) ∧ w' = w := by
  rw [← hv]; exact tHas_any p o f c w h hc

theorem runLast_stop (f : Nat → Bool) (n c : Nat) (h : ¬ (c < 255 ∧ f (c + 1) = true)) : Sp.runLast f n c = c := by
  cases n with
  | zero => rfl
  | succ n => unfold Sp.runLast; rw [if_neg h]

structure PRunInv (f : Nat → Bool) (c : Nat) (w : World) (gn : Nat) (v : Value) (wr : World) : Prop where
  st : ∃ cc : Nat, v = .int .i64 cc ∧ wr = w ∧ cc ≤ 255 ∧ 255 ≤ gn + cc ∧ Sp.runLast f 256 c = Sp.runLast f (gn + 1) cc

set_option maxHeartbeats 800000 in
theorem prRun_any (p o : Nat) (f : Nat → Bool) (c : Nat) (w : World) (h : SetIn w p o f) (hc : c < 256) :
    Calls Tryd.prog 45 #[.pointer (some ⟨p, o, none⟩), .int .i64 c] w fun e w' => e = .returned (.int .i64 (Sp.runLast f 256 c)) ∧ w' = w := by
  have HS : Hid (SetIn w p o f) := h
  clear h
  go_enter Tryd.func45, Tryd.ntmps45
  go_wp2_with fail
  go_loopg [1] 255 (fun gn v wr => PRunInv f c w gn v wr)
  case atStart => exact ⟨c, rfl, rfl, by omega, by omega, rfl⟩
  case round =>
    obtain ⟨cc, rfl, rfl, hcc, hgn, heq⟩ := hrel.st
    have HQ : Hid (Sp.runLast f 256 c = Sp.runLast f (gk + 1) cc) := heq
    clear heq
    by_cases hlt : cc < 255
    · cases hf : f (cc + 1) with
      | true =>
        have HF : Hid (f (cc + 1) = true) := hf
        obtain ⟨fuel, rfl⟩ : ∃ n, gk = n + 1 := ⟨gk - 1, by omega⟩
        have HR : Hid (Sp.runLast f 256 c = Sp.runLast f (fuel + 1) (cc + 1)) := by show _ = _; rw [HQ.out, Sp.runLast, if_pos ⟨hlt, hf⟩]
        clear hf
        have hlt' : (cc : Int) < 255 := by omega
        go_wp2_with fail
        refine (tHas_v p o f (cc + 1) true _ (by exact HS.out) (by omega) HF.out).mono ?_
        rintro e w1 ⟨rfl, hw1⟩
        rw [hw1]
        clear hw1 w1
        go_wp2_with fail
        go_roundg fuel
        case measure => omega
        case rel => exact ⟨cc + 1, int_eq (by omega), rfl, by omega, by omega, HR.out⟩
      | false =>
        have HF : Hid (f (cc + 1) = false) := hf
        have HR : Hid (Sp.runLast f 256 c = cc) := by show _ = _; rw [HQ.out]; exact runLast_stop f _ cc (fun q => by rw [hf] at q; exact absurd q.2 (by simp))
        clear hf
        have hlt' : (cc : Int) < 255 := by omega
        go_wp2_with fail
        refine (tHas_v p o f (cc + 1) false _ (by exact HS.out) (by omega) HF.out).mono ?_
        rintro e w1 ⟨rfl, hw1⟩
        rw [hw1]
        clear hw1 w1
        go_wp2_with fail
        go_ret
        exact ⟨ret_int (by rw [HR.out]), rfl⟩
    · have HR : Hid (Sp.runLast f 256 c = cc) := by show _ = _; rw [HQ.out]; exact runLast_stop f _ cc (fun q => hlt q.1)
      have hlt' : ¬ (cc : Int) < 255 := by omega
      go_wp2_with fail
      go_ret
      exact ⟨ret_int (by rw [HR.out]), rfl⟩

set_option maxHeartbeats 800000 in
theorem prItem_any (b : Nat) (l : List UInt8) (c d : Nat) (w : World) (h : BdAt w b l) (hl : l.length ≤ 9000000) (hcd : c ≤ d) (hd : d ≤ 255) :
    Calls Tryd.prog 46 #[.pointer (some ⟨b, 0, none⟩), .int .u8 c, .int .u8 d] w (PrOut b l (Sp.piece c d) w) := by
  have hh : Hid (BdAt w b l) := h
  clear h
  have hs1 := Sp.shown_le (c : Int) true
  have hs2 := Sp.shown_le (d : Int) true
  by_cases e1 : d = c
  · subst e1
    have HR : Hid (Sp.piece d d = Sp.shown d true) := by show _ = _; unfold Sp.piece; rw [if_pos rfl]
    go_enter Tryd.func46, Tryd.ntmps46
    go_wp2_with fail
    refine (prByte_any b l true d _ (by exact hh.out) (by omega) (by omega) (by omega)).mono ?_
    rintro e w1 ⟨rfl, hb1, hu1⟩
    go_wp2_with fail
    go_end0
    exact ⟨rfl, by rw [HR.out]; exact hb1, hu1⟩
  · have hne : ((c : Int) == (d : Int)) = false := by simp; omega
    by_cases e2 : d = c + 1
    · have HR : Hid (Sp.piece c d = Sp.shown c true ++ Sp.shown d true) := by show _ = _; unfold Sp.piece; rw [if_neg e1, if_pos e2]
      have hsub : ¬ (1 : Int) < (d : Int) - c := by omega
      clear e1 e2
      go_enter Tryd.func46, Tryd.ntmps46
      go_wp2_with fail
      refine (prByte_any b l true c _ (by exact hh.out) (by omega) (by omega) (by omega)).mono ?_
      rintro e w1 ⟨rfl, hb1, hu1⟩
      have HB1 : Hid (BdAt w1 b (l ++ Sp.shown c true)) := hb1
      have HU1 : Hid (Below b w w1) := hu1
      clear hb1 hu1
      go_wp2_with fail
      refine (prByte_any b (l ++ Sp.shown c true) true d _ (by exact HB1.out) (by simp; omega) (by omega) (by omega)).mono ?_
      rintro e w2 ⟨rfl, hb2, hu2⟩
      go_wp2_with fail
      go_end0
      exact ⟨rfl, by rw [HR.out, ← List.append_assoc]; exact hb2, HU1.out.trans hu2⟩
    · have HR : Hid (Sp.piece c d = Sp.shown c true ++ [45] ++ Sp.shown d true) := by show _ = _; unfold Sp.piece; rw [if_neg e1, if_neg e2]
      have hsub : (1 : Int) < (d : Int) - c := by omega
      clear e1 e2
      go_enter Tryd.func46, Tryd.ntmps46
      go_wp2_with fail
      refine (prByte_any b l true c _ (by exact hh.out) (by omega) (by omega) (by omega)).mono ?_
      rintro e w1 ⟨rfl, hb1, hu1⟩
      have HB1 : Hid (BdAt w1 b (l ++ Sp.shown c true)) := hb1
      have HU1 : Hid (Below b w w1) := hu1
      clear hb1 hu1
      go_wp2_with fail
      refine (wb_any b (l ++ Sp.shown c true) 45 _ (by exact HB1.out) (by simp; omega)).mono ?_
      rintro e w2 ⟨rfl, hb2, hu2⟩
      have HB2 : Hid (BdAt w2 b (l ++ Sp.shown c true ++ [45])) := hb2
      have HU2 : Hid (Below b w w2) := HU1.out.trans hu2
      clear hb2 hu2
      go_wp2_with fail
      refine (prByte_any b (l ++ Sp.shown c true ++ [45]) true d _ (by exact HB2.out) (by simp; omega) (by omega) (by omega)).mono ?_
      rintro e w3 ⟨rfl, hb3, hu3⟩
      go_wp2_with fail
      go_end0
      exact ⟨rfl, by rw [HR.out]; simpa using hb3, HU2.out.trans hu3⟩
end Go.Proofs.YtadmlifmcdnhnaaDoor

set_option linter.unusedSimpArgs false
set_option linter.unusedVariables false
namespace Go.Proofs.YtadmlifmcdnhnaaDoor
open Go.RowKit

theorem cell_same {w w' : World} {p : Nat} (h : w'.heap[p]? = w.heap[p]?) (o : Nat) : w'.cell? ⟨p, o, none⟩ = w.cell? ⟨p, o, none⟩ := by simp [World.cell?, h]
theorem SetIn.below {w w' : World} {b p o : Nat} {f : Nat → Bool} (h : SetIn w p o f) (hb : Below b w w') (hp : p < b) : SetIn w' p o f :=
  ⟨(cell_same (hb.block p hp) _).trans h.c0, (cell_same (hb.block p hp) _).trans h.c1, (cell_same (hb.block p hp) _).trans h.c2, (cell_same (hb.block p hp) _).trans h.c3⟩
theorem BdAt.drewN {w : World} {b : Nat} {l : List UInt8} (h : BdAt w b l) (n : Nat) : BdAt (w.drewN n) b l := h

structure PListdInv (b p : Nat) (f : Nat → Bool) (l : List UInt8) (w : World) (gn : Nat) (v : Value) (wr : World) : Prop where
  st : ∃ (cc : Nat) (cur : List UInt8), v = .int .i64 cc ∧ cc ≤ 256 ∧ 257 ≤ gn + cc ∧ BdAt wr b cur ∧ Below b w wr ∧ l ++ Sp.listed f = cur ++ Sp.listedFrom f gn cc ∧ cur.length ≤ l.length + 9 * cc

set_option maxHeartbeats 2000000 in
theorem prList_core (b : Nat) (l : List UInt8) (p : Nat) (f : Nat → Bool) (nt : Bool) (w : World) (h : BdAt w b l) (hl : l.length ≤ 8000000) (hp : p < b) (hs : SetIn w p 4 f) (h8 : w.cell? ⟨p, 8, none⟩ = some (.bool nt)) :
    Calls Tryd.prog 30 #[.pointer (some ⟨b, 0, none⟩), .pointer (some ⟨p, 0, none⟩)] w (PrOut b l ((if nt then [91, 94] else [91]) ++ Sp.listed f ++ [93]) w) := by
  have hh : Hid (BdAt w b l) := h
  have HS : Hid (SetIn w p 4 f) := hs
  clear h hs
  have hl0 := Sp.listed_le f
  cases nt with
  | true =>
    show Calls _ _ _ _ (PrOut b l ([91, 94] ++ Sp.listed f ++ [93]) w)
    go_enter Tryd.func30, Tryd.ntmps30
    go_wp2_with fail
    refine (wb_any b l 91 _ (by exact hh.out) (by omega)).mono ?_
    rintro e w1 ⟨rfl, hb1, hu1⟩
    have HB1 : Hid (BdAt w1 b (l ++ [91])) := hb1
    have HU1 : Hid (Below b w w1) := hu1
    have h8' : w1.cell? ⟨p, 8, none⟩ = some (.bool true) := (cell_same (hu1.block p hp) 8).trans h8
    clear hb1 hu1 h8
    go_wp2_with fail
    refine (wb_any b (l ++ [91]) 94 _ (by exact HB1.out) (by simp; omega)).mono ?_
    rintro e w2 ⟨rfl, hb2, hu2⟩
    have HB2 : Hid (BdAt w2 b (l ++ [91] ++ [94])) := hb2
    have HU2 : Hid (Below b w w2) := HU1.out.trans hu2
    clear hb2 hu2 h8'
    obtain ⟨l2, HL2⟩ : ∃ l2, Hid (l2 = l ++ [91] ++ [94]) := ⟨l ++ [91] ++ [94], (rfl : l ++ [91] ++ [94] = _)⟩
    rw [← HL2.out] at HB2
    have hl2 : l2.length ≤ 8000002 := by rw [HL2.out]; simp; omega
    go_wp2_with fail
    go_loopg [4] 257 (fun gn v wr => PListdInv b p f l2 w gn v wr)
    case atStart => exact ⟨0, l2, rfl, by omega, by omega, HB2.out, HU2.out, rfl, by omega⟩
    case round =>
      obtain ⟨cc, cur, rfl, hcc, hgn, hb, hu, heq, hlen⟩ := hrel.st
      clear HB2 HU2 hh hrel
      have HB : Hid (BdAt wr b cur) := hb
      have HU : Hid (Below b w wr) := hu
      have HSr : Hid (SetIn wr p 4 f) := HS.out.below hu hp
      clear hb hu
      by_cases hlt : cc < 256
      · obtain ⟨fuel, rfl⟩ : ∃ n, gk = n + 1 := ⟨gk - 1, by omega⟩
        have HQ : Hid (l2 ++ Sp.listed f = cur ++ Sp.listedFrom f (fuel + 1) cc) := heq
        clear heq
        have hlt' : (cc : Int) < 256 := by omega
        cases hf : f cc with
        | true =>
          have HF : Hid (f cc = true) := hf
          obtain ⟨la, HLA⟩ : ∃ la, Hid (la = Sp.runLast f 256 cc) := ⟨_, (rfl : Sp.runLast f 256 cc = _)⟩
          have hla0 : cc ≤ la := by rw [HLA.out]; exact Sp.runLast_ge f 256 cc
          have hla1 : la ≤ 255 := by rw [HLA.out]; exact Sp.runLast_le f 256 cc (by omega)
          have HR : Hid (l2 ++ Sp.listed f = (cur ++ Sp.piece cc la) ++ Sp.listedFrom f fuel (la + 1)) := by
            show _ = _; rw [HQ.out, Sp.listedFrom, if_pos hlt, hf, if_pos rfl, ← HLA.out, List.append_assoc]
          have hpl := Sp.piece_le cc la
          clear hf
          go_wp2_with fail
          refine (tHas_v p 4 f cc true _ (by exact HSr.out) hlt HF.out).mono ?_
          rintro e w3 ⟨rfl, hw3⟩
          rw [hw3]
          clear hw3 w3
          go_wp2_with fail
          refine (prRun_any p 4 f cc _ (by exact HSr.out) hlt).mono ?_
          rw [← HLA.out]
          rintro e w3 ⟨rfl, hw3⟩
          rw [hw3]
          clear hw3 w3
          go_wp2_with fail
          refine (prItem_any b cur cc la _ (by exact HB.out) (by omega) hla0 hla1).mono ?_
          rintro e w4 ⟨rfl, hb4, hu4⟩
          have HB4 : Hid (BdAt w4 b (cur ++ Sp.piece cc la)) := hb4
          have HU4 : Hid (Below b w w4) := HU.out.trans hu4
          clear hb4 hu4
          go_wp2_with fail
          go_roundg fuel
          case measure => omega
          case rel => exact ⟨la + 1, _, int_eq (by omega), by omega, by omega, HB4.out, HU4.out, HR.out, by simp; omega⟩
        | false =>
          have HF : Hid (f cc = false) := hf
          have HR : Hid (l2 ++ Sp.listed f = cur ++ Sp.listedFrom f fuel (cc + 1)) := by
            show _ = _; rw [HQ.out, Sp.listedFrom, if_pos hlt, hf, if_neg (by simp)]
          clear hf
          go_wp2_with fail
          refine (tHas_v p 4 f cc false _ (by exact HSr.out) hlt HF.out).mono ?_
          rintro e w3 ⟨rfl, hw3⟩
          rw [hw3]
          clear hw3 w3
          go_wp2_with fail
          go_roundg fuel
          case measure => omega
          case rel => exact ⟨cc + 1, cur, int_eq (by omega), by omega, by omega, HB.out, HU.out, HR.out, by omega⟩
      · have HQ : Hid (l2 ++ Sp.listed f = cur) := by show _ = _; rw [heq, Sp.listedFrom_out f gk cc (by omega), List.append_nil]
        have hlt' : ¬ (cc : Int) < 256 := by omega
        clear heq
        go_wp2_with fail
        refine (wb_any b cur 93 _ (by exact HB.out) (by omega)).mono ?_
        rintro e w4 ⟨rfl, hb4, hu4⟩
        have HB4 : Hid (BdAt w4 b (cur ++ [93])) := hb4
        have HU4 : Hid (Below b w w4) := HU.out.trans hu4
        clear hb4 hu4
        go_wp2_with fail
        go_end0
        refine ⟨rfl, ?_, HU4.out⟩
        have := HB4.out
        rw [← HQ.out, HL2.out] at this
        simpa using this
  | false =>
    show Calls _ _ _ _ (PrOut b l ([91] ++ Sp.listed f ++ [93]) w)
    go_enter Tryd.func30, Tryd.ntmps30
    go_wp2_with fail
    refine (wb_any b l 91 _ (by exact hh.out) (by omega)).mono ?_
    rintro e w2 ⟨rfl, hb2, hu2⟩
    have HB2 : Hid (BdAt w2 b (l ++ [91])) := hb2
    have HU2 : Hid (Below b w w2) := hu2
    have h8' : w2.cell? ⟨p, 8, none⟩ = some (.bool false) := (cell_same (hu2.block p hp) 8).trans h8
    clear hb2 hu2 h8
    obtain ⟨l2, HL2⟩ : ∃ l2, Hid (l2 = l ++ [91]) := ⟨l ++ [91], (rfl : l ++ [91] = _)⟩
    rw [← HL2.out] at HB2
    have hl2 : l2.length ≤ 8000002 := by rw [HL2.out]; simp; omega
    go_wp2_with fail
    go_loopg [4] 257 (fun gn v wr => PListdInv b p f l2 w gn v wr)
    case atStart => exact ⟨0, l2, rfl, by omega, by omega, HB2.out, HU2.out, rfl, by omega⟩
    case round =>
      obtain ⟨cc, cur, rfl, hcc, hgn, hb, hu, heq, hlen⟩ := hrel.st
      clear HB2 HU2 hh hrel
      have HB : Hid (BdAt wr b cur) := hb
      have HU : Hid (Below b w wr) := hu
      have HSr : Hid (SetIn wr p 4 f) := HS.out.below hu hp
      clear hb hu
      by_cases hlt : cc < 256
      · obtain ⟨fuel, rfl⟩ : ∃ n, gk = n + 1 := ⟨gk - 1, by omega⟩
        have HQ : Hid (l2 ++ Sp.listed f = cur ++ Sp.listedFrom f (fuel + 1) cc) := heq
        clear heq
        have hlt' : (cc : Int) < 256 := by omega
        cases hf : f cc with
        | true =>
          have HF : Hid (f cc = true) := hf
          obtain ⟨la, HLA⟩ : ∃ la, Hid (la = Sp.runLast f 256 cc) := ⟨_, (rfl : Sp.runLast f 256 cc = _)⟩
          have hla0 : cc ≤ la := by rw [HLA.out]; exact Sp.runLast_ge f 256 cc
          have hla1 : la ≤ 255 := by rw [HLA.out]; exact Sp.runLast_le f 256 cc (by omega)
          have HR : Hid (l2 ++ Sp.listed f = (cur ++ Sp.piece cc la) ++ Sp.listedFrom f fuel (la + 1)) := by
            show _ = _; rw [HQ.out, Sp.listedFrom, if_pos hlt, hf, if_pos rfl, ← HLA.out, List.append_assoc]
          have hpl := Sp.piece_le cc la
          clear hf
          go_wp2_with fail
          refine (tHas_v p 4 f cc true _ (by exact HSr.out) hlt HF.out).mono ?_
          rintro e w3 ⟨rfl, hw3⟩
          rw [hw3]
          clear hw3 w3
          go_wp2_with fail
          refine (prRun_any p 4 f cc _ (by exact HSr.out) hlt).mono ?_
          rw [← HLA.out]
          rintro e w3 ⟨rfl, hw3⟩
          rw [hw3]
          clear hw3 w3
          go_wp2_with fail
          refine (prItem_any b cur cc la _ (by exact HB.out) (by omega) hla0 hla1).mono ?_
          rintro e w4 ⟨rfl, hb4, hu4⟩
          have HB4 : Hid (BdAt w4 b (cur ++ Sp.piece cc la)) := hb4
          have HU4 : Hid (Below b w w4) := HU.out.trans hu4
          clear hb4 hu4
          go_wp2_with fail
          go_roundg fuel
          case measure => omega
          case rel => exact ⟨la + 1, _, int_eq (by omega), by omega, by omega, HB4.out, HU4.out, HR.out, by simp; omega⟩
        | false =>
          have HF : Hid (f cc = false) := hf
          have HR : Hid (l2 ++ Sp.listed f = cur ++ Sp.listedFrom f fuel (cc + 1)) := by
            show _ = _; rw [HQ.out, Sp.listedFrom, if_pos hlt, hf, if_neg (by simp)]
          clear hf
          go_wp2_with fail
          refine (tHas_v p 4 f cc false _ (by exact HSr.out) hlt HF.out).mono ?_
          rintro e w3 ⟨rfl, hw3⟩
          rw [hw3]
          clear hw3 w3
          go_wp2_with fail
          go_roundg fuel
          case measure => omega
          case rel => exact ⟨cc + 1, cur, int_eq (by omega), by omega, by omega, HB.out, HU.out, HR.out, by omega⟩
      · have HQ : Hid (l2 ++ Sp.listed f = cur) := by show _ = _; rw [heq, Sp.listedFrom_out f gk cc (by omega), List.append_nil]
        have hlt' : ¬ (cc : Int) < 256 := by omega
        clear heq
        go_wp2_with fail
        refine (wb_any b cur 93 _ (by exact HB.out) (by omega)).mono ?_
        rintro e w4 ⟨rfl, hb4, hu4⟩
        have HB4 : Hid (BdAt w4 b (cur ++ [93])) := hb4
        have HU4 : Hid (Below b w w4) := HU.out.trans hu4
        clear hb4 hu4
        go_wp2_with fail
        go_end0
        refine ⟨rfl, ?_, HU4.out⟩
        have := HB4.out
        rw [← HQ.out, HL2.out] at this
        simpa using this
end Go.Proofs.YtadmlifmcdnhnaaDoor
