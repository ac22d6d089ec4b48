import Derived.Test.YtcpfpnjkfahjcaaH36
import Derived.Test.YtcpfpnjkfahjcaaH35
set_option linter.unusedSimpArgs false
set_option linter.unusedVariables false
namespace Go.Proofs.Ytcpfpnjkfahjcaa
open Go.RowKit

def hexes : ByteArray := ⟨#[48, 49, 50, 51, 52, 53, 54, 55, 56, 57, 97, 98, 99, 100, 101, 102]⟩
theorem hexAt (n : Int) (h0 : 0 ≤ n) (h1 : n < 16) : hexes.extract n.toNat (n + 1).toNat = str [Sp.hexB n] := by
  rcases (by omega : n = 0 ∨ n = 1 ∨ n = 2 ∨ n = 3 ∨ n = 4 ∨ n = 5 ∨ n = 6 ∨ n = 7 ∨ n = 8 ∨ n = 9 ∨ n = 10 ∨ n = 11 ∨ n = 12 ∨ n = 13 ∨ n = 14 ∨ n = 15) with rfl | rfl | rfl | rfl | rfl | rfl | rfl | rfl | rfl | rfl | rfl | rfl | rfl | rfl | rfl | rfl <;> decide
set_option maxHeartbeats 400000 in
theorem hex_any (x : UInt8) (w : World) : Calls Try.prog 21 #[.int .u8 x.toNat] w (StrOut (Sp.hx x) w) := by
  have h1 := Sp.u8_le x
  have HX : Hid (Sp.hx x = [92, 120, Sp.hexB ((x.toNat : Int) / 16), Sp.hexB ((x.toNat : Int) % 16)]) := rfl
  revert h1 HX
  generalize hc : (x.toNat : Int) = c
  intro h1 HX
  have h0 : 0 ≤ c := by omega
  clear hc
  have HA : Hid (hexes.extract (c / 16).toNat (c / 16 + 1).toNat = str [Sp.hexB (c / 16)]) := hexAt _ (by omega) (by omega)
  have HB : Hid (hexes.extract (c % 16).toNat (c % 16 + 1).toNat = str [Sp.hexB (c % 16)]) := hexAt _ (by omega) (by omega)
  go_enter Try.func21, Try.ntmps21
  go_wp2_with fail
  go_quiet (fail)
  go_wp2_with fail
  go_ret
  refine ⟨ret_str ?_, by (repeat (first | exact Upd.refl _ _ | refine Upd.drewN ?_ | refine Upd.drew ?_ | refine Upd.setCell ?_ (by simp) _ | refine Upd.alloc ?_ _))⟩
  rw [HX.out]
  show (str [92, 120] ++ hexes.extract _ _) ++ hexes.extract _ _ = _
  rw [HA.out, HB.out, strL_append, strL_append]; rfl

theorem str_full {S : ByteArray} (h : 0 < S.size) : S.toList.isEmpty = false := by
  rw [ByteArray.toList_eq]
  cases hd : S.data.toList with
  | nil =>
    exfalso
    have e : S.size = S.data.toList.length := rfl
    rw [hd, List.length_nil] at e
    omega
  | cons x r => rfl
theorem str_other {A : List UInt8} {O : ByteArray} (h : O ≠ str A) : ((str A).toList == O.toList) = false := by
  rw [beq_eq_false_iff_ne]
  intro q
  rw [ByteArray.toList_eq, ByteArray.toList_eq] at q
  refine h ?_
  rw [← Sp.str_of O, ← q]
  simp [str]
theorem among_next {A : List UInt8} {c i : Nat} (h : i < A.length) : Sp.among (A.take (i + 1)) c = (Sp.among (A.take i) c || decide (((str A)[i]'(by rw [Sp.str_size]; exact h)).toNat = (c : Int))) := by
  rw [List.take_succ_eq_append_getElem h]
  unfold Sp.among
  rw [List.any_append]
  congr 1
  rw [Bool.eq_iff_iff]
  simp
  show A[i].toNat = c ↔ (A[i].toNat : Int) = c
  omega
structure CcInv (wb : World) (gn : Nat) (vi : Value) (wr : World) : Prop where
  st : ∃ c : Nat, vi = .int .i64 c ∧ c + gn = 256 ∧ Upd [] wb wr
structure InInv (wb : World) (A : List UInt8) (c gn : Nat) (vb vi : Value) (wr : World) : Prop where
  st : ∃ i : Nat, vb = .bool (Sp.among (A.take i) c) ∧ vi = .int .i64 i ∧ i + gn = A.length ∧ Upd [] wb wr
/-- Behind some rounds of the loop that writes the escapes. -/
structure HxInv (wb : World) (A : List UInt8) (gn : Nat) (vt vl vi : Value) (wr : World) : Prop where
  st : ∃ c : Nat, vt = .string (str (Sp.hxs (A.take c))) ∧ vl = .string (str (Sp.hxs (A.take c))) ∧ vi = .int .i64 c ∧ c + gn = A.length ∧ Upd [] wb wr
set_option maxRecDepth 8000 in
set_option maxHeartbeats 1600000 in
theorem exact_any (s other : ByteArray) (w : World) : Calls Try.prog 7 #[.string s, .string other] w fun e w' => e = .returned (.bool true) ∧ Upd [] w w' := by
  go_enter Try.func7, Try.ntmps7
  go_wp2_with fail
  refine (begun_any _).mono ?_
  rintro e w1 ⟨rfl, u1⟩
  have U1 : Hid (Upd [] w w1) := u1
  clear u1
  go_wp2_with fail
  refine (short_any s 40 _ (by omega)).mono ?_
  rintro e w4 ⟨rfl, hw4⟩
  rw [hw4]
  clear hw4 w4
  go_wp2_with fail
  refine (short_any other 100 _ (by omega)).mono ?_
  rintro e w4 ⟨rfl, hw4⟩
  rw [hw4]
  clear hw4 w4
  have hs : (cutS s 40).size ≤ 40 := by rw [cutS_size]; omega
  have ho : (cutS other 100).size ≤ 100 := by rw [cutS_size]; omega
  generalize cutS s 40 = S at *
  generalize cutS other 100 = O at *
  obtain ⟨A, rfl⟩ : ∃ A, S = str A := ⟨_, (Sp.str_of S).symm⟩
  have hA : A.length ≤ 40 := by rwa [Sp.str_size] at hs
  have hz : (str A).size = A.length := Sp.str_size A
  have hz' : ((str A).size : Int) = A.length := by omega
  go_wp2_with fail
  go_loopg [6, 7, 8] A.length (fun gn vt vl vi wr => HxInv w1 A gn vt vl vi wr)
  case atStart => exact ⟨0, rfl, rfl, rfl, by omega, Upd.refl _ _⟩
  case round =>
    obtain ⟨i, e1, e2, e3, hi, hu⟩ := hrel.st
    subst e1 e2 e3
    have HU : Hid (Upd [] w1 wr) := hu
    clear hu
    by_cases h : i < A.length
    · have h' : (i : Int) < A.length := by omega
      obtain ⟨gm, hgm⟩ : ∃ k, gk = k + 1 := ⟨gk - 1, by omega⟩
      have TK : Hid (A.take (i + 1) = A.take i ++ [(str A)[i]]) := List.take_succ_eq_append_getElem h
      have hl : (Sp.hxs (A.take i)).length ≤ 160 := by rw [Sp.hxs_len, List.length_take]; omega
      have ka := addL (Sp.hxs (A.take i)) (Sp.hx (str A)[i]) (by omega) (by show 4 ≤ 8000000; omega)
      have kb : catL (Sp.hxs (A.take i)) (Sp.hx (str A)[i]) = Sp.hxs (A.take (i + 1)) := by rw [TK.out, Sp.hxs_snoc]; rfl
      rw [kb] at ka
      clear kb
      go_wp2_with fail
      refine (hex_any (str A)[i] _).mono ?_
      rintro e w5 ⟨rfl, u5⟩
      have U5 : Hid (Upd [] w1 w5) := HU.out.trans u5
      clear u5
      go_wp2_with fail
      refine (hex_any (str A)[i] _).mono ?_
      rintro e w6 ⟨rfl, u6⟩
      have U6 : Hid (Upd [] w1 w6) := U5.out.trans u6
      clear u6
      go_wp2_with fail
      go_roundg gm
      case measure => omega
      case rel => exact ⟨i + 1, rfl, rfl, rfl, by omega, U6.out⟩
    · have h' : ¬ (i : Int) < A.length := by omega
      obtain rfl : i = A.length := by omega
      rw [List.take_length]
      have W5 : Hid (Upd [] w wr) := U1.out.trans HU.out
      clear HU U1
      have hl : (Sp.hxs A).length ≤ 160 := by rw [Sp.hxs_len]; omega
      have k1 : ∀ w, (Op.stringOp .add ⟨#[40]⟩ (str (Sp.hxs A))).run Try.prog w = .ok (.string (str (catL [40] (Sp.hxs A)))) w := addL [40] _ (by simp) (by omega)
      have k2 : ∀ w, (Op.stringOp .add (str (catL [40] (Sp.hxs A))) ⟨#[41]⟩).run Try.prog w = .ok (.string (str (catL (catL [40] (Sp.hxs A)) [41]))) w := addL _ [41] (by rw [catL_len]; simp; omega) (by simp)
      have HR : Hid (Sp.read (str (catL (catL [40] (Sp.hxs A)) [41])) = .ok (Sp.exactT A, 1)) := Sp.exact_read A hA
      generalize catL (catL [40] (Sp.hxs A)) [41] = E1 at *
      go_wp2_with fail
      refine (comp_yes (str E1) (Sp.exactT A) 1 _ HR.out).mono ?_
      rintro e w6 ⟨p, rfl, hp, h6, u6⟩
      have U6 : Hid (Upd [] w w6) := W5.out.trans u6
      have P6 : Hid (PatAt w6 p (Sp.exactT A) 1) := h6
      clear u6 h6
      have HW : Hid (wholeS (Sp.exactT A) (str A) = some (Sp.spansOf [(1, 0, A.length)] A.length)) := by
        have := wholeS_is (t := Sp.exactT A) (s := str A) ((Sp.exact_m _ A).mpr rfl)
        rw [hz, Sp.exact_g] at this; exact this
      go_wp2_with fail
      refine (of_yes p _ 1 _ _ (by omega) P6.out HW.out).mono ?_
      rintro e w7 ⟨g7, hg7, rfl, s7, u7⟩
      have U7 : Hid (Upd [] w w7) := U6.out.trans u7
      have G7 : Hid (SpansAt w7 g7 2 (Sp.spansOf [(1, 0, A.length)] A.length)) := s7
      have P7 : Hid (PatAt w7 p (Sp.exactT A) 1) := P6.out.upd u7
      clear u7 s7 P6
      unfold spansV
      by_cases heq : O = str A
      · subst heq
        go_wp2_with fail
        refine (of_yes p _ 1 _ _ (by omega) P7.out HW.out).mono ?_
        rintro e w8 ⟨g8, hg8, rfl, s8, u8⟩
        have U8 : Hid (Upd [] w w8) := U7.out.trans u8
        have G8 : Hid (SpansAt w8 g7 2 (Sp.spansOf [(1, 0, A.length)] A.length)) := (u8.block g7 (lt_of_heap G7.out) (by simp)).trans G7.out
        clear u8 s8 G7 P7
        unfold spansV
        have LT : Hid (SpansAt (w8.alloc (.cells #[.int .i64 0, .int .i64 A.length, .int .i64 0, .int .i64 A.length] 41)) w8.heap.size 2 (fun k => [((0 : Int), (A.length : Int)), (0, (A.length : Int))].getD k (0, 0))) := by
          have e := spArr_list [((0 : Int), (A.length : Int)), (0, (A.length : Int))]
          show _ = _
          rw [show spArr 2 (fun k => [((0 : Int), (A.length : Int)), (0, (A.length : Int))].getD k (0, 0)) = _ from e.symm]
          exact heap_new rfl
        have HS : Hid (sameB 2 (Sp.spansOf [(1, 0, A.length)] A.length) 2 (fun k => [((0 : Int), (A.length : Int)), (0, (A.length : Int))].getD k (0, 0)) = true) := (sameB_iff _ _ _ _).mpr ⟨rfl, fun k hk => Sp.two_spans A.length k hk⟩
        go_wp2_with fail
        refine (same_any _ _ 2 2 _ _ _ (SpansAt.own (g := g7) (n := 2) (by exact (Below.heap_alloc _ _ _ (lt_of_heap G8.out)).trans G8.out) (by omega)) (SpansAt.own LT.out (by omega)) (by omega) (by omega)).mono ?_
        rw [HS.out]
        rintro e w9 ⟨rfl, q, rfl⟩
        have U9 : Hid (Upd [] w ((w8.alloc (.cells #[.int .i64 0, .int .i64 A.length, .int .i64 0, .int .i64 A.length] 41)).drewN q)) := U8.out.trans (by (repeat (first | exact Upd.refl _ _ | refine Upd.drewN ?_ | refine Upd.drew ?_ | refine Upd.setCell ?_ (by simp) _ | refine Upd.alloc ?_ _)))
        generalize (w8.alloc (.cells #[.int .i64 0, .int .i64 A.length, .int .i64 0, .int .i64 A.length] 41)).drewN q = w9 at *
        clear LT HS G8 U8
        by_cases hemp : A = []
        · subst hemp
          have hem : (str ([] : List UInt8)).toList.isEmpty = true := by rw [ByteArray.toList_eq]; rfl
          go_wp2_with fail
          go_ret
          exact ⟨rfl, U9.out⟩
        · have hne2 : (str A).toList.isEmpty = false := str_full (by rw [hz]; exact List.length_pos_iff.mpr hemp)
          have k3 : ∀ w, (Op.stringOp .add ⟨#[91]⟩ (str (Sp.hxs A))).run Try.prog w = .ok (.string (str (catL [91] (Sp.hxs A)))) w := addL [91] _ (by simp) (by omega)
          have k4 : ∀ w, (Op.stringOp .add (str (catL [91] (Sp.hxs A))) ⟨#[93]⟩).run Try.prog w = .ok (.string (str (catL (catL [91] (Sp.hxs A)) [93]))) w := addL _ [93] (by rw [catL_len]; simp; omega) (by simp)
          have k5 : ∀ w, (Op.stringOp .add ⟨#[91, 94]⟩ (str (Sp.hxs A))).run Try.prog w = .ok (.string (str (catL [91, 94] (Sp.hxs A)))) w := addL [91, 94] _ (by simp) (by omega)
          have k6 : ∀ w, (Op.stringOp .add (str (catL [91, 94] (Sp.hxs A))) ⟨#[93]⟩).run Try.prog w = .ok (.string (str (catL (catL [91, 94] (Sp.hxs A)) [93]))) w := addL _ [93] (by rw [catL_len]; simp; omega) (by simp)
          have HR1 : Hid (Sp.read (str (catL (catL [91] (Sp.hxs A)) [93])) = .ok (Sp.listC A false, 0)) := Sp.list_read A false hemp hA
          have HR2 : Hid (Sp.read (str (catL (catL [91, 94] (Sp.hxs A)) [93])) = .ok (Sp.listC A true, 0)) := Sp.list_read A true hemp hA
          generalize catL (catL [91] (Sp.hxs A)) [93] = E2 at *
          generalize catL (catL [91, 94] (Sp.hxs A)) [93] = E3 at *
          go_wp2_with fail
          refine (comp_yes (str E2) (Sp.listC A false) 0 _ HR1.out).mono ?_
          rintro e w10 ⟨q1, rfl, hq1, h10, u10⟩
          have U10 : Hid (Upd [] w w10) := U9.out.trans u10
          have P10 : Hid (PatAt w10 q1 (Sp.listC A false) 0) := h10
          clear u10 h10
          go_wp2_with fail
          refine (comp_yes (str E3) (Sp.listC A true) 0 _ HR2.out).mono ?_
          rintro e w11 ⟨q2, rfl, hq2, h11, u11⟩
          have U11 : Hid (Upd [] w w11) := U10.out.trans u11
          have P11 : Hid (PatAt w11 q1 (Sp.listC A false) 0) := P10.out.upd u11
          have R11 : Hid (PatAt w11 q2 (Sp.listC A true) 0) := h11
          clear u11 h11 P10 U10
          go_wp2_with fail
          go_loopg [23] 256 (fun gn vi wr => CcInv w11 gn vi wr)
          case atStart => exact ⟨0, rfl, by omega, Upd.refl _ _⟩
          case round =>
            obtain ⟨c, e1, hc0, hu⟩ := hrel.st
            subst e1
            have HU : Hid (Upd [] w11 wr) := hu
            clear hu
            by_cases hc : c < 256
            · have hc' : (c : Int) < 256 := by omega
              obtain ⟨gm, hgm⟩ : ∃ k, gk = k + 1 := ⟨gk - 1, by omega⟩
              have wr0 := wr
              go_wp2_with fail
              go_loopg [24, 25] A.length (fun gn vb vi wr => InInv w11 A c gn vb vi wr)
              case atStart => exact ⟨0, rfl, rfl, by omega, HU.out⟩
              case round =>
                obtain ⟨i, e1, e2, hi0, hu⟩ := hrel.st
                subst e1 e2
                have VU : Hid (Upd [] w11 wr) := hu
                clear hu
                by_cases h3 : i < A.length
                · have h3' : (i : Int) < A.length := by omega
                  obtain ⟨gj, hgj⟩ : ∃ k, gk = k + 1 := ⟨gk - 1, by omega⟩
                  have HT : Hid (Sp.among (A.take (i + 1)) c = (Sp.among (A.take i) c || decide (((str A)[i].toNat : Int) = c))) := among_next h3
                  cases hb : Sp.among (A.take i) c with
                  | true =>
                    have HT2 : Hid (Sp.among (A.take (i + 1)) c = true) := by show _ = _; rw [HT.out, hb]; rfl
                    go_wp2_with fail
                    go_roundg gj
                    case measure => omega
                    case rel => exact ⟨i + 1, by rw [HT2.out], rfl, by omega, VU.out⟩
                  | false =>
                    have h255 : ((str A)[i].toNat : Int) ≤ 255 := Sp.u8_le _
                    have HT2 : Hid (Sp.among (A.take (i + 1)) c = (((str A)[i].toNat : Int) == c)) := by show _ = _; rw [HT.out, hb]; rfl
                    go_wp2_with fail
                    go_roundg gj
                    case measure => omega
                    case rel => exact ⟨i + 1, by rw [HT2.out]; rfl, rfl, by omega, VU.out⟩
                · have h3' : ¬ (i : Int) < A.length := by omega
                  obtain rfl : i = A.length := by omega
                  rw [List.take_length]
                  have ka := conv1
                  cases hb : Sp.among A c with
                  | true =>
                  have HB : Hid (Sp.among A c = true) := hb
                  have HW1 : Hid (wholeS (Sp.listC A false) (str [Sp.u8 c]) = some (Sp.spansOf ((Sp.sem (str [Sp.u8 c]) (Sp.listC A false)).g 0 (str [Sp.u8 c]).size) (str [Sp.u8 c]).size)) := wholeS_is (by rw [Sp.list_m A false c hc, HB.out]; rfl)
                  have HW2 : Hid (wholeS (Sp.listC A true) (str [Sp.u8 c]) = none) := wholeS_not (by rw [Sp.list_m A true c hc, HB.out]; rfl)
                  have Q12 : Hid (PatAt (wr.alloc (.cells #[.int .u8 c] 5)) q1 (Sp.listC A false) 0) := P11.out.upd (VU.out.trans (by (repeat (first | exact Upd.refl _ _ | refine Upd.drewN ?_ | refine Upd.drew ?_ | refine Upd.setCell ?_ (by simp) _ | refine Upd.alloc ?_ _))))
                  have R12 : Hid (PatAt (wr.alloc (.cells #[.int .u8 c] 5)) q2 (Sp.listC A true) 0) := R11.out.upd (VU.out.trans (by (repeat (first | exact Upd.refl _ _ | refine Upd.drewN ?_ | refine Upd.drew ?_ | refine Upd.setCell ?_ (by simp) _ | refine Upd.alloc ?_ _))))
                  have V12 : Hid (Upd [] w11 (wr.alloc (.cells #[.int .u8 c] 5))) := VU.out.trans (by (repeat (first | exact Upd.refl _ _ | refine Upd.drewN ?_ | refine Upd.drew ?_ | refine Upd.setCell ?_ (by simp) _ | refine Upd.alloc ?_ _)))
                  go_wp2_with fail
                  refine (of_yes q1 _ 0 _ _ (by show 1 ≤ 100; omega) Q12.out HW1.out).mono ?_
                  rintro e w13 ⟨g13, hg13, rfl, s13, u13⟩
                  have V13 : Hid (Upd [] w11 w13) := V12.out.trans u13
                  have R13 : Hid (PatAt w13 q2 (Sp.listC A true) 0) := R12.out.upd u13
                  clear u13
                  unfold spansV
                  have R14 : Hid (PatAt (w13.alloc (.cells #[.int .u8 c] 5)) q2 (Sp.listC A true) 0) := R13.out.upd (by (repeat (first | exact Upd.refl _ _ | refine Upd.drewN ?_ | refine Upd.drew ?_ | refine Upd.setCell ?_ (by simp) _ | refine Upd.alloc ?_ _)))
                  have V14 : Hid (Upd [] w11 (w13.alloc (.cells #[.int .u8 c] 5))) := V13.out.trans (by (repeat (first | exact Upd.refl _ _ | refine Upd.drewN ?_ | refine Upd.drew ?_ | refine Upd.setCell ?_ (by simp) _ | refine Upd.alloc ?_ _)))
                  go_wp2_with fail
                  refine (of_no q2 _ 0 _ _ (by show 1 ≤ 100; omega) R14.out HW2.out).mono ?_
                  rintro e w14 ⟨rfl, u14⟩
                  have V15 : Hid (Upd [] w11 w14) := V14.out.trans u14
                  clear u14
                  skip
                  go_wp2_with fail
                  go_roundg gm
                  case measure => omega
                  case rel => exact ⟨c + 1, rfl, by omega, V15.out⟩
                  | false =>
                  have HB : Hid (Sp.among A c = false) := hb
                  have HW1 : Hid (wholeS (Sp.listC A false) (str [Sp.u8 c]) = none) := wholeS_not (by rw [Sp.list_m A false c hc, HB.out]; rfl)
                  have HW2 : Hid (wholeS (Sp.listC A true) (str [Sp.u8 c]) = some (Sp.spansOf ((Sp.sem (str [Sp.u8 c]) (Sp.listC A true)).g 0 (str [Sp.u8 c]).size) (str [Sp.u8 c]).size)) := wholeS_is (by rw [Sp.list_m A true c hc, HB.out]; rfl)
                  have Q12 : Hid (PatAt (wr.alloc (.cells #[.int .u8 c] 5)) q1 (Sp.listC A false) 0) := P11.out.upd (VU.out.trans (by (repeat (first | exact Upd.refl _ _ | refine Upd.drewN ?_ | refine Upd.drew ?_ | refine Upd.setCell ?_ (by simp) _ | refine Upd.alloc ?_ _))))
                  have R12 : Hid (PatAt (wr.alloc (.cells #[.int .u8 c] 5)) q2 (Sp.listC A true) 0) := R11.out.upd (VU.out.trans (by (repeat (first | exact Upd.refl _ _ | refine Upd.drewN ?_ | refine Upd.drew ?_ | refine Upd.setCell ?_ (by simp) _ | refine Upd.alloc ?_ _))))
                  have V12 : Hid (Upd [] w11 (wr.alloc (.cells #[.int .u8 c] 5))) := VU.out.trans (by (repeat (first | exact Upd.refl _ _ | refine Upd.drewN ?_ | refine Upd.drew ?_ | refine Upd.setCell ?_ (by simp) _ | refine Upd.alloc ?_ _)))
                  go_wp2_with fail
                  refine (of_no q1 _ 0 _ _ (by show 1 ≤ 100; omega) Q12.out HW1.out).mono ?_
                  rintro e w13 ⟨rfl, u13⟩
                  have V13 : Hid (Upd [] w11 w13) := V12.out.trans u13
                  have R13 : Hid (PatAt w13 q2 (Sp.listC A true) 0) := R12.out.upd u13
                  clear u13
                  skip
                  have R14 : Hid (PatAt (w13.alloc (.cells #[.int .u8 c] 5)) q2 (Sp.listC A true) 0) := R13.out.upd (by (repeat (first | exact Upd.refl _ _ | refine Upd.drewN ?_ | refine Upd.drew ?_ | refine Upd.setCell ?_ (by simp) _ | refine Upd.alloc ?_ _)))
                  have V14 : Hid (Upd [] w11 (w13.alloc (.cells #[.int .u8 c] 5))) := V13.out.trans (by (repeat (first | exact Upd.refl _ _ | refine Upd.drewN ?_ | refine Upd.drew ?_ | refine Upd.setCell ?_ (by simp) _ | refine Upd.alloc ?_ _)))
                  go_wp2_with fail
                  refine (of_yes q2 _ 0 _ _ (by show 1 ≤ 100; omega) R14.out HW2.out).mono ?_
                  rintro e w14 ⟨g14, hg14, rfl, s14, u14⟩
                  have V15 : Hid (Upd [] w11 w14) := V14.out.trans u14
                  clear u14
                  unfold spansV
                  go_wp2_with fail
                  go_roundg gm
                  case measure => omega
                  case rel => exact ⟨c + 1, rfl, by omega, V15.out⟩
            · have hc' : ¬ (c : Int) < 256 := by omega
              go_wp2_with fail
              go_ret
              exact ⟨rfl, U11.out.trans HU.out⟩
      · have hne : ((str A).toList == O.toList) = false := str_other heq
        have HN : Hid (wholeS (Sp.exactT A) O = none) := by
          refine wholeS_not ?_
          cases hb : (Sp.sem O (Sp.exactT A)).m 0 O.size with
          | false => rfl
          | true => exact absurd ((Sp.exact_m O A).mp hb) heq
        go_wp2_with fail
        refine (of_no p _ 1 _ _ (by omega) P7.out HN.out).mono ?_
        rintro e w8 ⟨rfl, u8⟩
        have U8 : Hid (Upd [] w w8) := U7.out.trans u8
        have G8 : Hid (SpansAt w8 g7 2 (Sp.spansOf [(1, 0, A.length)] A.length)) := (u8.block g7 (lt_of_heap G7.out) (by simp)).trans G7.out
        clear u8 G7 P7
        have LT : Hid (SpansAt (w8.alloc (.cells #[.int .i64 0, .int .i64 A.length, .int .i64 0, .int .i64 A.length] 41)) w8.heap.size 2 (fun k => [((0 : Int), (A.length : Int)), (0, (A.length : Int))].getD k (0, 0))) := by
          have e := spArr_list [((0 : Int), (A.length : Int)), (0, (A.length : Int))]
          show _ = _
          rw [show spArr 2 (fun k => [((0 : Int), (A.length : Int)), (0, (A.length : Int))].getD k (0, 0)) = _ from e.symm]
          exact heap_new rfl
        have HS : Hid (sameB 2 (Sp.spansOf [(1, 0, A.length)] A.length) 2 (fun k => [((0 : Int), (A.length : Int)), (0, (A.length : Int))].getD k (0, 0)) = true) := (sameB_iff _ _ _ _).mpr ⟨rfl, fun k hk => Sp.two_spans A.length k hk⟩
        go_wp2_with fail
        refine (same_any _ _ 2 2 _ _ _ (SpansAt.own (g := g7) (n := 2) (by exact (Below.heap_alloc _ _ _ (lt_of_heap G8.out)).trans G8.out) (by omega)) (SpansAt.own LT.out (by omega)) (by omega) (by omega)).mono ?_
        rw [HS.out]
        rintro e w9 ⟨rfl, q, rfl⟩
        have U9 : Hid (Upd [] w ((w8.alloc (.cells #[.int .i64 0, .int .i64 A.length, .int .i64 0, .int .i64 A.length] 41)).drewN q)) := U8.out.trans (by (repeat (first | exact Upd.refl _ _ | refine Upd.drewN ?_ | refine Upd.drew ?_ | refine Upd.setCell ?_ (by simp) _ | refine Upd.alloc ?_ _)))
        generalize (w8.alloc (.cells #[.int .i64 0, .int .i64 A.length, .int .i64 0, .int .i64 A.length] 41)).drewN q = w9 at *
        clear LT HS G8 U8
        by_cases hemp : A = []
        · subst hemp
          have hem : (str ([] : List UInt8)).toList.isEmpty = true := by rw [ByteArray.toList_eq]; rfl
          go_wp2_with fail
          go_ret
          exact ⟨rfl, U9.out⟩
        · have hne2 : (str A).toList.isEmpty = false := str_full (by rw [hz]; exact List.length_pos_iff.mpr hemp)
          have k3 : ∀ w, (Op.stringOp .add ⟨#[91]⟩ (str (Sp.hxs A))).run Try.prog w = .ok (.string (str (catL [91] (Sp.hxs A)))) w := addL [91] _ (by simp) (by omega)
          have k4 : ∀ w, (Op.stringOp .add (str (catL [91] (Sp.hxs A))) ⟨#[93]⟩).run Try.prog w = .ok (.string (str (catL (catL [91] (Sp.hxs A)) [93]))) w := addL _ [93] (by rw [catL_len]; simp; omega) (by simp)
          have k5 : ∀ w, (Op.stringOp .add ⟨#[91, 94]⟩ (str (Sp.hxs A))).run Try.prog w = .ok (.string (str (catL [91, 94] (Sp.hxs A)))) w := addL [91, 94] _ (by simp) (by omega)
          have k6 : ∀ w, (Op.stringOp .add (str (catL [91, 94] (Sp.hxs A))) ⟨#[93]⟩).run Try.prog w = .ok (.string (str (catL (catL [91, 94] (Sp.hxs A)) [93]))) w := addL _ [93] (by rw [catL_len]; simp; omega) (by simp)
          have HR1 : Hid (Sp.read (str (catL (catL [91] (Sp.hxs A)) [93])) = .ok (Sp.listC A false, 0)) := Sp.list_read A false hemp hA
          have HR2 : Hid (Sp.read (str (catL (catL [91, 94] (Sp.hxs A)) [93])) = .ok (Sp.listC A true, 0)) := Sp.list_read A true hemp hA
          generalize catL (catL [91] (Sp.hxs A)) [93] = E2 at *
          generalize catL (catL [91, 94] (Sp.hxs A)) [93] = E3 at *
          go_wp2_with fail
          refine (comp_yes (str E2) (Sp.listC A false) 0 _ HR1.out).mono ?_
          rintro e w10 ⟨q1, rfl, hq1, h10, u10⟩
          have U10 : Hid (Upd [] w w10) := U9.out.trans u10
          have P10 : Hid (PatAt w10 q1 (Sp.listC A false) 0) := h10
          clear u10 h10
          go_wp2_with fail
          refine (comp_yes (str E3) (Sp.listC A true) 0 _ HR2.out).mono ?_
          rintro e w11 ⟨q2, rfl, hq2, h11, u11⟩
          have U11 : Hid (Upd [] w w11) := U10.out.trans u11
          have P11 : Hid (PatAt w11 q1 (Sp.listC A false) 0) := P10.out.upd u11
          have R11 : Hid (PatAt w11 q2 (Sp.listC A true) 0) := h11
          clear u11 h11 P10 U10
          go_wp2_with fail
          go_loopg [23] 256 (fun gn vi wr => CcInv w11 gn vi wr)
          case atStart => exact ⟨0, rfl, by omega, Upd.refl _ _⟩
          case round =>
            obtain ⟨c, e1, hc0, hu⟩ := hrel.st
            subst e1
            have HU : Hid (Upd [] w11 wr) := hu
            clear hu
            by_cases hc : c < 256
            · have hc' : (c : Int) < 256 := by omega
              obtain ⟨gm, hgm⟩ : ∃ k, gk = k + 1 := ⟨gk - 1, by omega⟩
              have wr0 := wr
              go_wp2_with fail
              go_loopg [24, 25] A.length (fun gn vb vi wr => InInv w11 A c gn vb vi wr)
              case atStart => exact ⟨0, rfl, rfl, by omega, HU.out⟩
              case round =>
                obtain ⟨i, e1, e2, hi0, hu⟩ := hrel.st
                subst e1 e2
                have VU : Hid (Upd [] w11 wr) := hu
                clear hu
                by_cases h3 : i < A.length
                · have h3' : (i : Int) < A.length := by omega
                  obtain ⟨gj, hgj⟩ : ∃ k, gk = k + 1 := ⟨gk - 1, by omega⟩
                  have HT : Hid (Sp.among (A.take (i + 1)) c = (Sp.among (A.take i) c || decide (((str A)[i].toNat : Int) = c))) := among_next h3
                  cases hb : Sp.among (A.take i) c with
                  | true =>
                    have HT2 : Hid (Sp.among (A.take (i + 1)) c = true) := by show _ = _; rw [HT.out, hb]; rfl
                    go_wp2_with fail
                    go_roundg gj
                    case measure => omega
                    case rel => exact ⟨i + 1, by rw [HT2.out], rfl, by omega, VU.out⟩
                  | false =>
                    have h255 : ((str A)[i].toNat : Int) ≤ 255 := Sp.u8_le _
                    have HT2 : Hid (Sp.among (A.take (i + 1)) c = (((str A)[i].toNat : Int) == c)) := by show _ = _; rw [HT.out, hb]; rfl
                    go_wp2_with fail
                    go_roundg gj
                    case measure => omega
                    case rel => exact ⟨i + 1, by rw [HT2.out]; rfl, rfl, by omega, VU.out⟩
                · have h3' : ¬ (i : Int) < A.length := by omega
                  obtain rfl : i = A.length := by omega
                  rw [List.take_length]
                  have ka := conv1
                  cases hb : Sp.among A c with
                  | true =>
                  have HB : Hid (Sp.among A c = true) := hb
                  have HW1 : Hid (wholeS (Sp.listC A false) (str [Sp.u8 c]) = some (Sp.spansOf ((Sp.sem (str [Sp.u8 c]) (Sp.listC A false)).g 0 (str [Sp.u8 c]).size) (str [Sp.u8 c]).size)) := wholeS_is (by rw [Sp.list_m A false c hc, HB.out]; rfl)
                  have HW2 : Hid (wholeS (Sp.listC A true) (str [Sp.u8 c]) = none) := wholeS_not (by rw [Sp.list_m A true c hc, HB.out]; rfl)
                  have Q12 : Hid (PatAt (wr.alloc (.cells #[.int .u8 c] 5)) q1 (Sp.listC A false) 0) := P11.out.upd (VU.out.trans (by (repeat (first | exact Upd.refl _ _ | refine Upd.drewN ?_ | refine Upd.drew ?_ | refine Upd.setCell ?_ (by simp) _ | refine Upd.alloc ?_ _))))
                  have R12 : Hid (PatAt (wr.alloc (.cells #[.int .u8 c] 5)) q2 (Sp.listC A true) 0) := R11.out.upd (VU.out.trans (by (repeat (first | exact Upd.refl _ _ | refine Upd.drewN ?_ | refine Upd.drew ?_ | refine Upd.setCell ?_ (by simp) _ | refine Upd.alloc ?_ _))))
                  have V12 : Hid (Upd [] w11 (wr.alloc (.cells #[.int .u8 c] 5))) := VU.out.trans (by (repeat (first | exact Upd.refl _ _ | refine Upd.drewN ?_ | refine Upd.drew ?_ | refine Upd.setCell ?_ (by simp) _ | refine Upd.alloc ?_ _)))
                  go_wp2_with fail
                  refine (of_yes q1 _ 0 _ _ (by show 1 ≤ 100; omega) Q12.out HW1.out).mono ?_
                  rintro e w13 ⟨g13, hg13, rfl, s13, u13⟩
                  have V13 : Hid (Upd [] w11 w13) := V12.out.trans u13
                  have R13 : Hid (PatAt w13 q2 (Sp.listC A true) 0) := R12.out.upd u13
                  clear u13
                  unfold spansV
                  have R14 : Hid (PatAt (w13.alloc (.cells #[.int .u8 c] 5)) q2 (Sp.listC A true) 0) := R13.out.upd (by (repeat (first | exact Upd.refl _ _ | refine Upd.drewN ?_ | refine Upd.drew ?_ | refine Upd.setCell ?_ (by simp) _ | refine Upd.alloc ?_ _)))
                  have V14 : Hid (Upd [] w11 (w13.alloc (.cells #[.int .u8 c] 5))) := V13.out.trans (by (repeat (first | exact Upd.refl _ _ | refine Upd.drewN ?_ | refine Upd.drew ?_ | refine Upd.setCell ?_ (by simp) _ | refine Upd.alloc ?_ _)))
                  go_wp2_with fail
                  refine (of_no q2 _ 0 _ _ (by show 1 ≤ 100; omega) R14.out HW2.out).mono ?_
                  rintro e w14 ⟨rfl, u14⟩
                  have V15 : Hid (Upd [] w11 w14) := V14.out.trans u14
                  clear u14
                  skip
                  go_wp2_with fail
                  go_roundg gm
                  case measure => omega
                  case rel => exact ⟨c + 1, rfl, by omega, V15.out⟩
                  | false =>
                  have HB : Hid (Sp.among A c = false) := hb
                  have HW1 : Hid (wholeS (Sp.listC A false) (str [Sp.u8 c]) = none) := wholeS_not (by rw [Sp.list_m A false c hc, HB.out]; rfl)
                  have HW2 : Hid (wholeS (Sp.listC A true) (str [Sp.u8 c]) = some (Sp.spansOf ((Sp.sem (str [Sp.u8 c]) (Sp.listC A true)).g 0 (str [Sp.u8 c]).size) (str [Sp.u8 c]).size)) := wholeS_is (by rw [Sp.list_m A true c hc, HB.out]; rfl)
                  have Q12 : Hid (PatAt (wr.alloc (.cells #[.int .u8 c] 5)) q1 (Sp.listC A false) 0) := P11.out.upd (VU.out.trans (by (repeat (first | exact Upd.refl _ _ | refine Upd.drewN ?_ | refine Upd.drew ?_ | refine Upd.setCell ?_ (by simp) _ | refine Upd.alloc ?_ _))))
                  have R12 : Hid (PatAt (wr.alloc (.cells #[.int .u8 c] 5)) q2 (Sp.listC A true) 0) := R11.out.upd (VU.out.trans (by (repeat (first | exact Upd.refl _ _ | refine Upd.drewN ?_ | refine Upd.drew ?_ | refine Upd.setCell ?_ (by simp) _ | refine Upd.alloc ?_ _))))
                  have V12 : Hid (Upd [] w11 (wr.alloc (.cells #[.int .u8 c] 5))) := VU.out.trans (by (repeat (first | exact Upd.refl _ _ | refine Upd.drewN ?_ | refine Upd.drew ?_ | refine Upd.setCell ?_ (by simp) _ | refine Upd.alloc ?_ _)))
                  go_wp2_with fail
                  refine (of_no q1 _ 0 _ _ (by show 1 ≤ 100; omega) Q12.out HW1.out).mono ?_
                  rintro e w13 ⟨rfl, u13⟩
                  have V13 : Hid (Upd [] w11 w13) := V12.out.trans u13
                  have R13 : Hid (PatAt w13 q2 (Sp.listC A true) 0) := R12.out.upd u13
                  clear u13
                  skip
                  have R14 : Hid (PatAt (w13.alloc (.cells #[.int .u8 c] 5)) q2 (Sp.listC A true) 0) := R13.out.upd (by (repeat (first | exact Upd.refl _ _ | refine Upd.drewN ?_ | refine Upd.drew ?_ | refine Upd.setCell ?_ (by simp) _ | refine Upd.alloc ?_ _)))
                  have V14 : Hid (Upd [] w11 (w13.alloc (.cells #[.int .u8 c] 5))) := V13.out.trans (by (repeat (first | exact Upd.refl _ _ | refine Upd.drewN ?_ | refine Upd.drew ?_ | refine Upd.setCell ?_ (by simp) _ | refine Upd.alloc ?_ _)))
                  go_wp2_with fail
                  refine (of_yes q2 _ 0 _ _ (by show 1 ≤ 100; omega) R14.out HW2.out).mono ?_
                  rintro e w14 ⟨g14, hg14, rfl, s14, u14⟩
                  have V15 : Hid (Upd [] w11 w14) := V14.out.trans u14
                  clear u14
                  unfold spansV
                  go_wp2_with fail
                  go_roundg gm
                  case measure => omega
                  case rel => exact ⟨c + 1, rfl, by omega, V15.out⟩
            · have hc' : ¬ (c : Int) < 256 := by omega
              go_wp2_with fail
              go_ret
              exact ⟨rfl, U11.out.trans HU.out⟩
end Go.Proofs.Ytcpfpnjkfahjcaa
