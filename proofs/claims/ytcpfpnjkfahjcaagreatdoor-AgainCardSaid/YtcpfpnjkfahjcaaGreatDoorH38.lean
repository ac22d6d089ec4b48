import Derived.Test.YtcpfpnjkfahjcaaGreatDoorH35
import Derived.Test.YtcpfpnjkfahjcaaGreatDoorH14
import Derived.Test.YtcpfpnjkfahjcaaGreatDoorH37
set_option linter.unusedSimpArgs false
set_option linter.unusedVariables false
namespace Go.Proofs.YtcpfpnjkfahjcaaGreatDoor
open Go.RowKit

theorem sPrint_yes (s : ByteArray) (t : Tr) (n : Int) (w : World) (hr : Sp.read s = .ok (t, n)) : Calls Tryz.prog 5 #[.string s] w fun e w' => e = .returned (.tuple #[.string (str (Sp.text t)), .int .i64 0, .int .i64 0]) ∧ Upd [] w w' := by
  refine (sPrint_any s w).mono ?_
  unfold PrintOut printR
  rw [hr]
  rintro e w' h; exact h
theorem sPrint_no (s : ByteArray) (e1 a1 : Int) (w : World) (hr : Sp.read s = .error (e1, a1)) : Calls Tryz.prog 5 #[.string s] w fun e w' => e = .returned (.tuple #[.string ⟨#[]⟩, .int .i64 e1, .int .i64 a1]) ∧ Upd [] w w' := by
  refine (sPrint_any s w).mono ?_
  unfold PrintOut printR
  rw [hr]
  rintro e w' h; exact h
theorem read_long {s : ByteArray} (h : 200 < s.size) : Sp.read s = .error (2, 0) := by
  unfold Sp.read; rw [if_pos (by omega)]

/-- Behind some rounds of the loop of Again. -/
structure AgInv (wb : World) (len gn : Nat) (vi : Value) (wr : World) : Prop where
  st : ∃ c : Nat, vi = .int .i64 c ∧ c + gn = len ∧ Upd [] wb wr
set_option maxRecDepth 8000 in
set_option maxHeartbeats 1600000 in
theorem again_err (a : ByteArray) (a0 : Option Addr) (len cap : Nat) (ea aa : Int) (w : World) (hr2 : Sp.read a = .error (ea, aa)) : Calls Tryz.prog 3 #[.string a, .slice a0 len cap] w fun e w' => e = .returned (.bool true) ∧ Upd [] w w' := by
  have HR2 : Hid (Sp.read a = .error (ea, aa)) := hr2
  have hea : ea ≠ 0 := Sp.read_code hr2
  have hba : (ea != 0) = true := by simpa using hea
  clear hr2
  go_enter Tryz.func3, Tryz.ntmps3
  go_wp2_with fail
  refine (begun_any _).mono ?_
  rintro e w1 ⟨rfl, u1⟩
  have U1 : Hid (Upd [] w w1) := u1
  clear u1
  go_wp2_with fail
  refine (sPrint_no a ea aa _ HR2.out).mono ?_
  rintro e w2 ⟨rfl, u2⟩
  have U2 : Hid (Upd [] w w2) := U1.out.trans u2
  clear u2
  go_wp2_with fail
  refine (comp_no a ea aa _ HR2.out).mono ?_
  rintro e w3 ⟨rfl, u3⟩
  have U3 : Hid (Upd [] w w3) := U2.out.trans u3
  clear u3
  go_wp2_with fail
  go_ret
  exact ⟨rfl, U3.out⟩
set_option maxRecDepth 8000 in
set_option maxHeartbeats 1600000 in
theorem again_long (a : ByteArray) (a0 : Option Addr) (len cap : Nat) (t : Tr) (n : Int) (w : World) (hr2 : Sp.read a = .ok (t, n)) (hl : 200 < (Sp.text t).length) : Calls Tryz.prog 3 #[.string a, .slice a0 len cap] w fun e w' => e = .returned (.bool true) ∧ Upd [] w w' := by
  have HR2 : Hid (Sp.read a = .ok (t, n)) := hr2
  have hz : (str (Sp.text t)).size = (Sp.text t).length := Sp.str_size _
  have HR3 : Hid (Sp.read (str (Sp.text t)) = .error (2, 0)) := read_long (by omega)
  have hz' : (200 : Int) < ((str (Sp.text t)).size : Int) := by omega
  clear hr2
  go_enter Tryz.func3, Tryz.ntmps3
  go_wp2_with fail
  refine (begun_any _).mono ?_
  rintro e w1 ⟨rfl, u1⟩
  have U1 : Hid (Upd [] w w1) := u1
  clear u1
  go_wp2_with fail
  refine (sPrint_yes a t n _ HR2.out).mono ?_
  rintro e w2 ⟨rfl, u2⟩
  have U2 : Hid (Upd [] w w2) := U1.out.trans u2
  clear u2
  go_wp2_with fail
  refine (comp_yes a t n _ HR2.out).mono ?_
  rintro e w3 ⟨p, rfl, hp, h3, u3⟩
  have U3 : Hid (Upd [] w w3) := U2.out.trans u3
  have P3 : Hid (PatAt w3 p t n.toNat) := h3
  clear u3 h3
  go_wp2_with fail
  refine (sPrint_no (str (Sp.text t)) 2 0 _ HR3.out).mono ?_
  rintro e w4 ⟨rfl, u4⟩
  have U4 : Hid (Upd [] w w4) := U3.out.trans u4
  clear u4
  go_wp2_with fail
  refine (comp_no (str (Sp.text t)) 2 0 _ HR3.out).mono ?_
  rintro e w5 ⟨rfl, u5⟩
  have U5 : Hid (Upd [] w w5) := U4.out.trans u5
  clear u5
  go_wp2_with fail
  go_ret
  exact ⟨rfl, U5.out⟩
set_option maxRecDepth 8000 in
set_option maxHeartbeats 1600000 in
theorem again_ok (a : ByteArray) (a0 : Option Addr) (b off len cap : Nat) (X : Nat → ByteArray) (t : Tr) (n : Int) (w : World) (hr2 : Sp.read a = .ok (t, n)) (hl : (Sp.text t).length ≤ 200) (hlen : (len : Int) ≤ 9223372036854775807) (ha : 0 < len → a0 = some ⟨b, off, none⟩) (hb : 0 < len → b < w.heap.size) (hX : ∀ j, j < len → w.cell? ⟨b, off + j, none⟩ = some (.string (X j))) : Calls Tryz.prog 3 #[.string a, .slice a0 len cap] w fun e w' => e = .returned (.bool true) ∧ Upd [] w w' := by
  have HR2 : Hid (Sp.read a = .ok (t, n)) := hr2
  have HR3 : Hid (Sp.read (str (Sp.text t)) = .ok (t, n)) := Sp.read_back hr2 hl
  have hz : (str (Sp.text t)).size = (Sp.text t).length := Sp.str_size _
  have hz' : ¬ (200 : Int) < ((str (Sp.text t)).size : Int) := by omega
  have HX : Hid ((0 < len → b < w.heap.size) ∧ ∀ j, j < len → w.cell? ⟨b, off + j, none⟩ = some (.string (X j))) := ⟨hb, hX⟩
  have HA : Hid (0 < len → a0 = some ⟨b, off, none⟩) := ha
  clear hr2 ha hb hX
  go_enter Tryz.func3, Tryz.ntmps3
  go_wp2_with fail
  refine (begun_any _).mono ?_
  rintro e w1 ⟨rfl, u1⟩
  have U1 : Hid (Upd [] w w1) := u1
  clear u1
  go_wp2_with fail
  refine (sPrint_yes a t n _ HR2.out).mono ?_
  rintro e w2 ⟨rfl, u2⟩
  have U2 : Hid (Upd [] w w2) := U1.out.trans u2
  clear u2
  go_wp2_with fail
  refine (comp_yes a t n _ HR2.out).mono ?_
  rintro e w3 ⟨p, rfl, hp, h3, u3⟩
  have U3 : Hid (Upd [] w w3) := U2.out.trans u3
  have P3 : Hid (PatAt w3 p t n.toNat) := h3
  clear u3 h3
  go_wp2_with fail
  refine (sPrint_yes (str (Sp.text t)) t n _ HR3.out).mono ?_
  rintro e w4 ⟨rfl, u4⟩
  have U4 : Hid (Upd [] w w4) := U3.out.trans u4
  have P4 : Hid (PatAt w4 p t n.toNat) := P3.out.upd u4
  clear u4
  go_wp2_with fail
  refine (comp_yes (str (Sp.text t)) t n _ HR3.out).mono ?_
  rintro e w5 ⟨q, rfl, hq, h5, u5⟩
  have U5 : Hid (Upd [] w w5) := U4.out.trans u5
  have P5 : Hid (PatAt w5 p t n.toNat) := P4.out.upd u5
  have Q5 : Hid (PatAt w5 q t n.toNat) := h5
  have n9 : n.toNat ≤ 9 := h5.1
  clear u5 h5 P3 P4
  generalize n.toNat = N at *
  go_wp2_with fail
  go_loopg [18] len (fun gn vi wr => AgInv w5 len gn vi wr)
  case atStart => exact ⟨0, rfl, by omega, Upd.refl _ _⟩
  case round =>
    obtain ⟨i, e1, hi, hu⟩ := hrel.st
    subst e1
    have HU : Hid (Upd [] w5 wr) := hu
    clear hu
    by_cases h : i < len
    · have h' : (i : Int) < len := by omega
      obtain ⟨gm, hgm⟩ : ∃ k, gk = k + 1 := ⟨gk - 1, by omega⟩
      have e0 := HA.out (by omega)
      subst e0
      have hc : wr.cell? ⟨b, off + i, none⟩ = some (.string (X i)) := by
        rw [← HX.out.2 i h]; exact cell_eq ((U5.out.trans HU.out).block b (HX.out.1 (by omega)) (by simp)) _
      go_wp2_with fail
      refine (short_any (X i) 100 _ (by omega)).mono ?_
      rintro e w6 ⟨rfl, hw6⟩
      rw [hw6]
      clear hw6 w6
      have hS : (cutS (X i) 100).size ≤ 100 := by rw [cutS_size]; omega
      generalize cutS (X i) 100 = S at *
      have P6 : Hid (PatAt wr p t N) := P5.out.upd HU.out
      have Q6 : Hid (PatAt wr q t N) := Q5.out.upd HU.out
      cases hw : wholeS t S with
      | none =>
        have HW : Hid (wholeS t S = none) := hw
        clear hw
        go_wp2_with fail
        refine (of_no p t N S _ hS P6.out HW.out).mono ?_
        rintro e w7 ⟨rfl, u7⟩
        have U7 : Hid (Upd [] w5 w7) := HU.out.trans u7
        have Q7 : Hid (PatAt w7 q t N) := Q6.out.upd u7
        clear u7
        go_wp2_with fail
        refine (of_no q t N S _ hS Q7.out HW.out).mono ?_
        rintro e w8 ⟨rfl, u8⟩
        have U8 : Hid (Upd [] w5 w8) := U7.out.trans u8
        clear u8
        go_wp2_with fail
        refine (same_any (.slice none 0 0) (.slice none 0 0) 0 0 Sp.nowh Sp.nowh _ (SpL.nil _ _) (SpL.nil _ _) (by omega) (by omega)).mono ?_
        rw [show sameB 0 Sp.nowh 0 Sp.nowh = true from (sameB_iff _ _ _ _).mpr ⟨rfl, fun k hk => rfl⟩]
        rintro e w9 ⟨rfl, q9, rfl⟩
        have U9 : Hid (Upd [] w5 (w8.drewN q9)) := U8.out.trans (by (repeat (first | exact Upd.refl _ _ | refine Upd.drewN ?_ | refine Upd.drew ?_ | refine Upd.setCell ?_ (by simp) _ | refine Upd.alloc ?_ _)))
        go_wp2_with fail
        go_roundg gm
        case measure => omega
        case rel => exact ⟨i + 1, rfl, by omega, U9.out⟩
      | some f =>
        have HW : Hid (wholeS t S = some f) := hw
        clear hw
        go_wp2_with fail
        refine (of_yes p t N S _ hS P6.out HW.out).mono ?_
        rintro e w7 ⟨g7, hg7, rfl, s7, u7⟩
        have U7 : Hid (Upd [] w5 w7) := HU.out.trans u7
        have Q7 : Hid (PatAt w7 q t N) := Q6.out.upd u7
        have G7 : Hid (SpansAt w7 g7 (N + 1) f) := s7
        clear u7 s7
        unfold spansV
        go_wp2_with fail
        refine (of_yes q t N S _ hS Q7.out HW.out).mono ?_
        rintro e w8 ⟨g8, hg8, rfl, s8, u8⟩
        have U8 : Hid (Upd [] w5 w8) := U7.out.trans u8
        have G8 : Hid (SpansAt w8 g8 (N + 1) f) := s8
        have G78 : Hid (SpansAt w8 g7 (N + 1) f) := (u8.block g7 (lt_of_heap G7.out) (by simp)).trans G7.out
        clear u8 s8
        unfold spansV
        go_wp2_with fail
        refine (same_any (.slice (some ⟨g7, 0, none⟩) (N + 1) (N + 1)) (.slice (some ⟨g8, 0, none⟩) (N + 1) (N + 1)) (N + 1) (N + 1) f f _ (SpansAt.own G78.out (by omega)) (SpansAt.own G8.out (by omega)) (by omega) (by omega)).mono ?_
        rw [show sameB (N + 1) f (N + 1) f = true from (sameB_iff _ _ _ _).mpr ⟨rfl, fun k hk => rfl⟩]
        rintro e w9 ⟨rfl, q9, rfl⟩
        have U9 : Hid (Upd [] w5 (w8.drewN q9)) := U8.out.trans (by (repeat (first | exact Upd.refl _ _ | refine Upd.drewN ?_ | refine Upd.drew ?_ | refine Upd.setCell ?_ (by simp) _ | refine Upd.alloc ?_ _)))
        go_wp2_with fail
        go_roundg gm
        case measure => omega
        case rel => exact ⟨i + 1, rfl, by omega, U9.out⟩
    · have h' : ¬ (i : Int) < len := by omega
      go_wp2_with fail
      go_ret
      exact ⟨rfl, U5.out.trans HU.out⟩
theorem again_any (a : ByteArray) (a0 : Option Addr) (b off len cap : Nat) (X : Nat → ByteArray) (w : World) (hlen : (len : Int) ≤ 9223372036854775807) (ha : 0 < len → a0 = some ⟨b, off, none⟩) (hb : 0 < len → b < w.heap.size) (hX : ∀ j, j < len → w.cell? ⟨b, off + j, none⟩ = some (.string (X j))) : Calls Tryz.prog 3 #[.string a, .slice a0 len cap] w fun e w' => e = .returned (.bool true) ∧ Upd [] w w' := by
  cases hr : Sp.read a with
  | error f => obtain ⟨ea, aa⟩ := f; exact again_err a a0 len cap ea aa w hr
  | ok v =>
    obtain ⟨t, n⟩ := v
    by_cases hl : 200 < (Sp.text t).length
    · exact again_long a a0 len cap t n w hr hl
    · exact again_ok a a0 b off len cap X t n w hr (by omega) hlen ha hb hX
end Go.Proofs.YtcpfpnjkfahjcaaGreatDoor
