import Derived.Test.YtcpfpnjkfahjcaaH33
import Derived.Test.YtcpfpnjkfahjcaaH34
import Derived.Laws.BytesArg
set_option linter.unusedSimpArgs false
set_option linter.unusedVariables false
namespace Go.Proofs.Ytcpfpnjkfahjcaa
open Go.RowKit

theorem conv1 (w : World) (x : Int) : (convert 46 9 (.slice (some ⟨w.heap.size, 0, none⟩) 1 1)).run Try.prog (w.alloc (.cells #[.int .u8 x] 5)) = .ok (.string (str [Sp.u8 x])) (w.alloc (.cells #[.int .u8 x] 5)) :=
  run_convert_bytes_arg (P := Try.prog) (w.alloc (.cells #[.int .u8 x] 5)) 46 5 Try.underlying46 Try.underlying5 w.heap.size 0 1 1 [x] rfl (fun i hi => by
    obtain rfl : i = 0 := by omega
    simp) 9 Try.underlying9
theorem conv2 (w : World) (x y : Int) : (convert 46 9 (.slice (some ⟨w.heap.size, 0, none⟩) 2 2)).run Try.prog (w.alloc (.cells #[.int .u8 x, .int .u8 y] 5)) = .ok (.string (str [Sp.u8 x, Sp.u8 y])) (w.alloc (.cells #[.int .u8 x, .int .u8 y] 5)) :=
  run_convert_bytes_arg (P := Try.prog) (w.alloc (.cells #[.int .u8 x, .int .u8 y] 5)) 46 5 Try.underlying46 Try.underlying5 w.heap.size 0 2 2 [x, y] rfl (fun i hi => by
    rcases (by omega : i = 0 ∨ i = 1) with rfl | rfl <;> simp) 9 Try.underlying9
theorem ret_str {a b : ByteArray} (h : a = b) : Ending.returned (.string a) = .returned (.string b) := by rw [h]
def StrOut (l : List UInt8) (w : World) (e : Ending) (w' : World) : Prop := e = .returned (.string (str l)) ∧ Upd [] w w'

set_option maxHeartbeats 400000 in
theorem digit_any (n : Int) (w : World) (h0 : 0 ≤ n) (h1 : n ≤ 20) :
    Calls Try.prog 23 #[.int .i64 n] w (StrOut (Sp.digs n) w) := by
  have k1 := conv1
  have k2 := conv2
  by_cases h : 9 < n
  · have HR : Hid (Sp.digs n = [Sp.u8 (48 + n / 10), Sp.u8 (48 + n % 10)]) := if_pos h
    go_enter Try.func23, Try.ntmps23
    go_wp2
    go_ret
    exact ⟨ret_str (by rw [HR.out]), by (repeat (first | exact Upd.refl _ _ | refine Upd.drewN ?_ | refine Upd.drew ?_ | refine Upd.setCell ?_ (by simp) _ | refine Upd.alloc ?_ _))⟩
  · have HR : Hid (Sp.digs n = [Sp.u8 (48 + n)]) := if_neg h
    go_enter Try.func23, Try.ntmps23
    go_wp2
    go_ret
    exact ⟨ret_str (by rw [HR.out]), by (repeat (first | exact Upd.refl _ _ | refine Upd.drewN ?_ | refine Upd.drew ?_ | refine Upd.setCell ?_ (by simp) _ | refine Upd.alloc ?_ _))⟩
theorem pick_neg (c : Int) (n : Nat) (hn : 0 < n) (h : c < 0) : ∃ r : Nat, -((c + 1).tmod n) = (r : Int) ∧ r < n := by
  have h1 : 0 ≤ (-(c + 1)).tmod n := Int.tmod_nonneg _ (by omega)
  have h2 : (-(c + 1)).tmod n < n := Int.tmod_lt_of_pos _ (by omega)
  rw [Int.neg_tmod] at h1 h2
  exact ⟨(-((c + 1).tmod n)).toNat, by omega, by omega⟩
theorem pick_pos (c : Int) (n : Nat) (hn : 0 < n) : ∃ r : Nat, c % n = (r : Int) ∧ r < n := by
  have h1 : 0 ≤ c % n := Int.emod_nonneg _ (by omega)
  have h2 : c % n < n := Int.emod_lt_of_pos _ (by omega)
  exact ⟨(c % n).toNat, by omega, by omega⟩
set_option maxHeartbeats 400000 in
/-- Which of n things a raw number speaks of. -/
theorem pick_any (c : Int) (n : Nat) (w : World) (hc : -9223372036854775808 ≤ c) (hc' : c ≤ 9223372036854775807) (hn : 0 < n) (hn' : n ≤ 1000000000) : Calls Try.prog 22 #[.int .i64 c, .int .i64 n] w fun e w' => (∃ r : Nat, e = .returned (.int .i64 r) ∧ r < n) ∧ w' = w := by
  by_cases h : c < 0
  · obtain ⟨r, h1, h2⟩ := pick_neg c n hn h
    have H1 : Hid (-((c + 1).tmod n) = (r : Int)) := h1
    clear h1
    go_enter Try.func22, Try.ntmps22
    go_wp2_with fail
    go_ret
    exact ⟨⟨r, by rw [← H1.out]; rfl, h2⟩, rfl⟩
  · obtain ⟨r, h1, h2⟩ := pick_pos c n hn
    have H1 : Hid (c % n = (r : Int)) := h1
    clear h1
    go_enter Try.func22, Try.ntmps22
    go_wp2_with fail
    go_ret
    exact ⟨⟨r, by rw [← H1.out]; rfl, h2⟩, rfl⟩
/-- Behind some rounds of the loop that makes the text. -/
structure XsInv (wb : World) (n gn : Nat) (vs vi : Value) (wr : World) : Prop where
  st : ∃ c : Nat, vs = .string (str (Sp.xs c)) ∧ vi = .int .i64 c ∧ c + gn = n ∧ Upd [] wb wr
theorem xs_add (c : Nat) (hc : c ≤ 1000) (w : World) : (Op.stringOp .add (str (Sp.xs c)) ⟨#[120]⟩).run Try.prog w = .ok (.string (str (Sp.xs (c + 1)))) w := by
  have h := addL (Sp.xs c) [120] (by simp [Sp.xs]; omega) (by simp) w
  have e : catL (Sp.xs c) [120] = Sp.xs (c + 1) := by unfold catL Sp.xs; rw [List.replicate_succ']
  rw [e] at h; exact h
set_option maxRecDepth 8000 in
set_option maxHeartbeats 1600000 in
theorem counted_any (a b c d n : Int) (w : World) (ha : -9223372036854775808 ≤ a ∧ a ≤ 9223372036854775807) (hb : -9223372036854775808 ≤ b ∧ b ≤ 9223372036854775807) (hc : -9223372036854775808 ≤ c ∧ c ≤ 9223372036854775807) (hd : -9223372036854775808 ≤ d ∧ d ≤ 9223372036854775807) (hn : -9223372036854775808 ≤ n ∧ n ≤ 9223372036854775807) : Calls Try.prog 8 #[.int .i64 a, .int .i64 b, .int .i64 c, .int .i64 d, .int .i64 n] w fun e w' => e = .returned (.bool true) ∧ Upd [] w w' := by
  have HX : Hid ((-9223372036854775808 ≤ a ∧ a ≤ 9223372036854775807) ∧ (-9223372036854775808 ≤ b ∧ b ≤ 9223372036854775807) ∧ (-9223372036854775808 ≤ c ∧ c ≤ 9223372036854775807) ∧ (-9223372036854775808 ≤ d ∧ d ≤ 9223372036854775807) ∧ (-9223372036854775808 ≤ n ∧ n ≤ 9223372036854775807)) := ⟨ha, hb, hc, hd, hn⟩
  clear ha hb hc hd hn
  go_enter Try.func8, Try.ntmps8
  go_wp2_with fail
  refine (begun_any _).mono ?_
  rintro e w1 ⟨rfl, u1⟩
  have U1 : Hid (Upd [] w w1) := u1
  clear u1
  go_wp2_with fail
  refine (pick_any a 6 _ HX.out.1.1 HX.out.1.2 (by omega) (by omega)).mono ?_
  rintro e w2 ⟨⟨ra, rfl, la⟩, hw⟩
  rw [hw]; clear hw w2
  go_wp2_with fail
  refine (pick_any b 6 _ HX.out.2.1.1 HX.out.2.1.2 (by omega) (by omega)).mono ?_
  rintro e w2 ⟨⟨rb, rfl, lb⟩, hw⟩
  rw [hw]; clear hw w2
  go_wp2_with fail
  refine (pick_any c 6 _ HX.out.2.2.1.1 HX.out.2.2.1.2 (by omega) (by omega)).mono ?_
  rintro e w2 ⟨⟨rc, rfl, lc⟩, hw⟩
  rw [hw]; clear hw w2
  go_wp2_with fail
  refine (pick_any d 6 _ HX.out.2.2.2.1.1 HX.out.2.2.2.1.2 (by omega) (by omega)).mono ?_
  rintro e w2 ⟨⟨rd, rfl, ld⟩, hw⟩
  rw [hw]; clear hw w2
  go_wp2_with fail
  refine (pick_any n 40 _ HX.out.2.2.2.2.1 HX.out.2.2.2.2.2 (by omega) (by omega)).mono ?_
  rintro e w2 ⟨⟨z, rfl, lz⟩, hw⟩
  rw [hw]; clear hw w2
  clear HX
  have HR : Hid (Sp.read (str (Sp.countedS ra (ra + rb) rc (rc + rd))) = .ok (Sp.countedT ra (ra + rb) rc (rc + rd), 3)) := Sp.counted_read _ _ _ _ (by omega) (by omega) (by omega) (by omega) (by omega) (by omega)
  have HD : Hid ((Sp.digs ra).length ≤ 2 ∧ (Sp.digs (ra + rb)).length ≤ 2 ∧ (Sp.digs rc).length ≤ 2 ∧ (Sp.digs (rc + rd)).length ≤ 2) := ⟨Sp.digs_le _, Sp.digs_le _, Sp.digs_le _, Sp.digs_le _⟩
  go_wp2_with fail
  refine (digit_any ra _ (by omega) (by omega)).mono ?_
  rintro e w2 ⟨rfl, u2⟩
  have U2 : Hid (Upd [] w w2) := U1.out.trans u2
  clear u2
  unfold Sp.countedS at HR
  revert HR HD
  generalize Sp.digs ra = D1
  generalize hD2 : Sp.digs (ra + rb) = D2
  generalize hD3 : Sp.digs rc = D3
  generalize hD4 : Sp.digs (rc + rd) = D4
  intro HR HD
  have HD2 : Hid (Sp.digs (ra + rb) = D2 ∧ Sp.digs rc = D3 ∧ Sp.digs (rc + rd) = D4) := ⟨hD2, hD3, hD4⟩
  clear hD2 hD3 hD4
  have l1 := HD.out.1
  have l2 := HD.out.2.1
  have l3 := HD.out.2.2.1
  have l4 := HD.out.2.2.2
  have k1 : ∀ w, (Op.stringOp .add ⟨#[40, 120, 123]⟩ (str D1)).run Try.prog w = .ok (.string (str (catL [40, 120, 123] D1))) w := addL [40, 120, 123] D1 (by simp) (by omega)
  have m1 : (catL [40, 120, 123] D1).length ≤ 5 := by rw [catL_len]; simp; omega
  generalize hE1 : catL [40, 120, 123] D1 = E1 at k1 m1
  have k2 : ∀ w, (Op.stringOp .add (str E1) ⟨#[44]⟩).run Try.prog w = .ok (.string (str (catL E1 [44]))) w := addL E1 [44] (by omega) (by simp)
  have m2 : (catL E1 [44]).length ≤ 6 := by rw [catL_len]; simp; omega
  generalize hE2 : catL E1 [44] = E2 at k2 m2
  have k3 : ∀ w, (Op.stringOp .add (str E2) (str D2)).run Try.prog w = .ok (.string (str (catL E2 D2))) w := addL E2 D2 (by omega) (by omega)
  have m3 : (catL E2 D2).length ≤ 8 := by rw [catL_len]; omega
  generalize hE3 : catL E2 D2 = E3 at k3 m3
  have k4 : ∀ w, (Op.stringOp .add (str E3) ⟨#[125, 41, 40, 120, 123]⟩).run Try.prog w = .ok (.string (str (catL E3 [125, 41, 40, 120, 123]))) w := addL E3 [125, 41, 40, 120, 123] (by omega) (by simp)
  have m4 : (catL E3 [125, 41, 40, 120, 123]).length ≤ 13 := by rw [catL_len]; simp; omega
  generalize hE4 : catL E3 [125, 41, 40, 120, 123] = E4 at k4 m4
  have k5 : ∀ w, (Op.stringOp .add (str E4) (str D3)).run Try.prog w = .ok (.string (str (catL E4 D3))) w := addL E4 D3 (by omega) (by omega)
  have m5 : (catL E4 D3).length ≤ 15 := by rw [catL_len]; omega
  generalize hE5 : catL E4 D3 = E5 at k5 m5
  have k6 : ∀ w, (Op.stringOp .add (str E5) ⟨#[44]⟩).run Try.prog w = .ok (.string (str (catL E5 [44]))) w := addL E5 [44] (by omega) (by simp)
  have m6 : (catL E5 [44]).length ≤ 16 := by rw [catL_len]; simp; omega
  generalize hE6 : catL E5 [44] = E6 at k6 m6
  have k7 : ∀ w, (Op.stringOp .add (str E6) (str D4)).run Try.prog w = .ok (.string (str (catL E6 D4))) w := addL E6 D4 (by omega) (by omega)
  have m7 : (catL E6 D4).length ≤ 18 := by rw [catL_len]; omega
  generalize hE7 : catL E6 D4 = E7 at k7 m7
  have k8 : ∀ w, (Op.stringOp .add (str E7) ⟨#[125, 41, 40, 120, 42, 41]⟩).run Try.prog w = .ok (.string (str (catL E7 [125, 41, 40, 120, 42, 41]))) w := addL E7 [125, 41, 40, 120, 42, 41] (by omega) (by simp)
  have HE : Hid (Sp.read (str (catL E7 [125, 41, 40, 120, 42, 41])) = .ok (Sp.countedT ra (ra + rb) rc (rc + rd), 3)) := by
    subst hE1 hE2 hE3 hE4 hE5 hE6 hE7; exact HR.out
  clear hE1 hE2 hE3 hE4 hE5 hE6 hE7 HR m1 m2 m3 m4 m5 m6 m7 l1 l2 l3 l4 HD
  generalize catL E7 [125, 41, 40, 120, 42, 41] = E8 at *
  go_wp2_with fail
  refine (digit_any (ra + rb) _ (by omega) (by omega)).mono ?_
  rw [HD2.out.1]
  rintro e w3 ⟨rfl, u3⟩
  have U3 : Hid (Upd [] w w3) := U2.out.trans u3
  clear u3
  go_wp2_with fail
  refine (digit_any rc _ (by omega) (by omega)).mono ?_
  rw [HD2.out.2.1]
  rintro e w4 ⟨rfl, u4⟩
  have U4 : Hid (Upd [] w w4) := U3.out.trans u4
  clear u4
  go_wp2_with fail
  refine (digit_any (rc + rd) _ (by omega) (by omega)).mono ?_
  rw [HD2.out.2.2]
  rintro e w5 ⟨rfl, u5⟩
  have U5 : Hid (Upd [] w w5) := U4.out.trans u5
  clear u5
  go_wp2_with fail
  refine (comp_yes (str E8) (Sp.countedT ra (ra + rb) rc (rc + rd)) 3 _ HE.out).mono ?_
  rintro e w6 ⟨p, rfl, hp, h6, u6⟩
  have U6 : Hid (Upd [] w w6) := U5.out.trans u6
  have P6 : Hid (PatAt w6 p (Sp.countedT ra (ra + rb) rc (rc + rd)) 3) := h6
  clear u6 h6
  go_wp2_with fail
  go_loopg [20, 21] z (fun gn vs vi wr => XsInv w6 z gn vs vi wr)
  case atStart => exact ⟨0, rfl, rfl, by omega, Upd.refl _ _⟩
  case round =>
    obtain ⟨i, e1, e2, hi, hu⟩ := hrel.st
    subst e1 e2
    have HU : Hid (Upd [] w6 wr) := hu
    clear hu
    by_cases h : i < z
    · have h' : (i : Int) < z := by omega
      have ka := xs_add i (by omega)
      obtain ⟨gm, hgm⟩ : ∃ k, gk = k + 1 := ⟨gk - 1, by omega⟩
      go_wp2_with fail
      go_roundg gm
      case measure => omega
      case rel => exact ⟨i + 1, rfl, rfl, by omega, HU.out⟩
    · have h' : ¬ (i : Int) < z := by omega
      obtain rfl : i = z := by omega
      have P7 : Hid (PatAt wr p (Sp.countedT ra (ra + rb) rc (rc + rd)) 3) := P6.out.upd HU.out
      have U7 : Hid (Upd [] w wr) := U6.out.trans HU.out
      have hsz : (str (Sp.xs i)).size = i := (Sp.xs_all i).size
      clear P6 U6 HU
      by_cases hq : i < ra + rc
      · have hq' : (i : Int) < ra + rc := by omega
        have HW : Hid (wholeS (Sp.countedT ra (ra + rb) rc (rc + rd)) (str (Sp.xs i)) = none) := by
          refine wholeS_not ?_
          rw [hsz]
          cases hb : (Sp.sem (str (Sp.xs i)) (Sp.countedT ra (ra + rb) rc (rc + rd))).m 0 i with
          | false => rfl
          | true => have := (Sp.counted_m (Sp.xs_all i) (by omega) (by omega) (by omega) (by omega)).mp hb; omega
        go_wp2_with fail
        refine (of_no p _ 3 _ _ (by omega) P7.out HW.out).mono ?_
        rintro e w8 ⟨rfl, u8⟩
        have U8 : Hid (Upd [] w w8) := U7.out.trans u8
        clear u8
        go_wp2_with fail
        go_ret
        exact ⟨rfl, U8.out⟩
      · have hq' : ¬ (i : Int) < ra + rc := by omega
        obtain ⟨I, hI⟩ : ∃ I : Nat, (I : Int) = min ((ra : Int) + rb) (i - rc) := ⟨(min ((ra : Int) + rb) (i - rc)).toNat, by omega⟩
        obtain ⟨J, hJ⟩ : ∃ J : Nat, (J : Int) = I + min ((rc : Int) + rd) (i - I) := ⟨(I + min ((rc : Int) + rd) (i - I)).toNat, by omega⟩
        have HM : Hid ((Sp.sem (str (Sp.xs i)) (Sp.countedT ra (ra + rb) rc (rc + rd))).m 0 i = true) := (Sp.counted_m (Sp.xs_all i) (by omega) (by omega) (by omega) (by omega)).mpr (by omega)
        have HG : Hid ((Sp.sem (str (Sp.xs i)) (Sp.countedT ra (ra + rb) rc (rc + rd))).g 0 i = [(1, 0, I), (2, I, J), (3, J, i)]) := Sp.counted_g (Sp.xs_all i) (by omega) (by omega) (by omega) (by omega) (by omega) hI hJ
        have HW : Hid (wholeS (Sp.countedT ra (ra + rb) rc (rc + rd)) (str (Sp.xs i)) = some (Sp.spansOf [(1, 0, I), (2, I, J), (3, J, i)] i)) := by
          have := wholeS_is (t := Sp.countedT ra (ra + rb) rc (rc + rd)) (s := str (Sp.xs i)) (by rw [hsz]; exact HM.out)
          rw [hsz, HG.out] at this
          exact this
        go_wp2_with fail
        refine (of_yes p _ 3 _ _ (by omega) P7.out HW.out).mono ?_
        rintro e w8 ⟨g8, hg8, rfl, s8, u8⟩
        have U8 : Hid (Upd [] w w8) := U7.out.trans u8
        have G8 : Hid (SpansAt w8 g8 4 (Sp.spansOf [(1, 0, I), (2, I, J), (3, J, i)] i)) := s8
        clear u8 s8
        unfold spansV
        have LT : Hid (SpansAt (w8.alloc (.cells #[.int .i64 0, .int .i64 i, .int .i64 0, .int .i64 I, .int .i64 I, .int .i64 J, .int .i64 J, .int .i64 i] 41)) w8.heap.size 4 (fun k => [((0 : Int), (i : Int)), (0, (I : Int)), ((I : Int), (J : Int)), ((J : Int), (i : Int))].getD k (0, 0))) := by
          have e := spArr_list [((0 : Int), (i : Int)), (0, (I : Int)), ((I : Int), (J : Int)), ((J : Int), (i : Int))]
          show _ = _
          rw [show spArr 4 (fun k => [((0 : Int), (i : Int)), (0, (I : Int)), ((I : Int), (J : Int)), ((J : Int), (i : Int))].getD k (0, 0)) = _ from e.symm]
          exact heap_new rfl
        have HS : Hid (sameB 4 (Sp.spansOf [(1, 0, I), (2, I, J), (3, J, i)] i) 4 (fun k => [((0 : Int), (i : Int)), (0, (I : Int)), ((I : Int), (J : Int)), ((J : Int), (i : Int))].getD k (0, 0)) = true) := (sameB_iff _ _ _ _).mpr ⟨rfl, fun k hk => Sp.three_spans I J i k hk⟩
        go_wp2_with fail
        rw [← hI, ← hJ]
        refine (same_any _ _ 4 4 _ _ _ (SpansAt.own (g := g8) (n := 4) (by exact (Below.heap_alloc _ _ _ (lt_of_heap G8.out)).trans G8.out) (by omega)) (SpansAt.own LT.out (by omega)) (by omega) (by omega)).mono ?_
        rw [HS.out]
        rintro e w9 ⟨rfl, q, rfl⟩
        go_wp2_with fail
        go_ret
        exact ⟨rfl, U8.out.trans (by (repeat (first | exact Upd.refl _ _ | refine Upd.drewN ?_ | refine Upd.drew ?_ | refine Upd.setCell ?_ (by simp) _ | refine Upd.alloc ?_ _)))⟩
end Go.Proofs.Ytcpfpnjkfahjcaa
