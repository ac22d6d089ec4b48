import Derived.Test.YtcpfpnjkfahjcaaDoorH18
import Derived.Test.YtcpfpnjkfahjcaaDoorH41
set_option linter.unusedSimpArgs false
set_option linter.unusedVariables false
namespace Go.Proofs.YtcpfpnjkfahjcaaDoor
open Go.RowKit

theorem refGroups_nil (w : World) :
    Calls Tryd.prog 9 #[.pointer none] w (fun e w' => e = .returned (.tuple #[.int .i64 0, .int .i64 1]) ∧ w' = w) := by
  go_enter Tryd.func9, Tryd.ntmps9
  go_wp2_with fail
  go_ret2
  exact ⟨rfl, rfl⟩
theorem PpAt.upd {w w' : World} {p root : Nat} {n : Int} (h : PpAt w p root n) (u : Upd [] w w') : PpAt w' p root n := by
  unfold PpAt at *; rw [u.block p (lt_of_heap h) (by simp)]; exact h

theorem str1 : ((str [91, 92, 45, 97, 45, 99, 93, 43, 124]).toList == [91, 92, 45, 97, 45, 99, 93, 43, 124]) = true := by kernel_rfl
theorem str2 : (str []).toList.isEmpty = true := by kernel_rfl

set_option maxHeartbeats 2000000 in
theorem prints_walk (s : ByteArray) (w : World) :
    Calls Tryd.prog 3 #[.string s] w fun e w' => e = .returned (.bool true) ∧ Upd [] w w' := by
  have k1 := str1
  have k2 := str2
  go_enter Tryd.func3, Tryd.ntmps3
  go_wp2_with fail
  refine (sPrint_any lit1 _).mono ?_
  rintro e w1 ⟨he, hu1⟩
  rw [he, print1]
  have HU1 : Hid (Upd [] w w1) := hu1
  clear hu1 he
  go_wp2_with fail
  refine (sPrint_any lit2 _).mono ?_
  rintro e w2 ⟨he, hu2⟩
  rw [he, print2]
  have HU2 : Hid (Upd [] w w2) := HU1.out.trans hu2
  clear hu2 he
  obtain ⟨X, HX⟩ : ∃ X, Hid (X = str (printR s).1) := ⟨_, (rfl : str (printR s).1 = _)⟩
  cases hr : Sp.read s with
  | error p =>
    obtain ⟨e1, a1⟩ := p
    have HR : Hid (Sp.read s = .error (e1, a1)) := hr
    have HP : Hid ((printR s).2.1 = e1 ∧ (printR s).2.2 = a1) := by unfold printR; rw [hr]; exact ⟨rfl, rfl⟩
    clear hr
    go_wp2_with fail
    clear k1 k2
    refine (sPrint_any s _).mono ?_
    unfold PrintOut
    rw [HP.out.1, HP.out.2, ← HX.out]
    rintro e w3 ⟨rfl, hu3⟩
    have HU3 : Hid (Upd [] w w3) := HU2.out.trans hu3
    clear hu3
    go_wp2_with fail
    refine (refPrint s _).mono ?_
    unfold PrintOut
    rw [HP.out.1, HP.out.2, ← HX.out]
    rintro e w4 ⟨rfl, hu4⟩
    have HU4 : Hid (Upd [] w w4) := HU3.out.trans hu4
    clear hu4
    go_wp2_with fail
    refine (sCompile_any s _).mono ?_
    unfold PCompileOut
    rw [HR.out]
    rintro e w5 ⟨hu5, rfl⟩
    have HU5 : Hid (Upd [] w w5) := HU4.out.trans hu5
    clear hu5
    go_wp2_with fail
    refine (refCompile s _).mono ?_
    unfold CompileOut
    rw [HR.out]
    rintro e w6 ⟨hu6, rfl⟩
    have HU6 : Hid (Upd [] w w6) := HU5.out.trans hu6
    clear hu6
    go_wp2_with fail
    refine (sGroups_nil _).mono ?_
    rintro e w7 ⟨rfl, hw7⟩
    rw [hw7]
    clear hw7 w7
    go_wp2_with fail
    refine (refGroups_nil _).mono ?_
    rintro e w7 ⟨rfl, hw7⟩
    rw [hw7]
    clear hw7 w7
    go_wp2_with fail
    go_ret
    exact ⟨rfl, HU6.out⟩
  | ok p =>
    obtain ⟨t, n⟩ := p
    have HR : Hid (Sp.read s = .ok (t, n)) := hr
    have HP : Hid ((printR s).2.1 = 0 ∧ (printR s).2.2 = 0) := by unfold printR; rw [hr]; exact ⟨rfl, rfl⟩
    have HT : Hid ((Sp.comp t ⟨[], 0⟩).1.told = n) := Sp.read_told hr
    clear hr
    go_wp2_with fail
    clear k1 k2
    refine (sPrint_any s _).mono ?_
    unfold PrintOut
    rw [HP.out.1, HP.out.2, ← HX.out]
    rintro e w3 ⟨rfl, hu3⟩
    have HU3 : Hid (Upd [] w w3) := HU2.out.trans hu3
    clear hu3
    go_wp2_with fail
    refine (refPrint s _).mono ?_
    unfold PrintOut
    rw [HP.out.1, HP.out.2, ← HX.out]
    rintro e w4 ⟨rfl, hu4⟩
    have HU4 : Hid (Upd [] w w4) := HU3.out.trans hu4
    clear hu4
    go_wp2_with fail
    refine (sCompile_any s _).mono ?_
    unfold PCompileOut
    rw [HR.out]
    rintro e w5 ⟨hu5, p, root, rfl, hp5, hpat, _⟩
    have HU5 : Hid (Upd [] w w5) := HU4.out.trans hu5
    have HPT : Hid (PpAt w5 p root n) := hpat
    clear hu5 hpat
    go_wp2_with fail
    refine (refCompile s _).mono ?_
    unfold CompileOut
    rw [HR.out]
    rintro e w6 ⟨hu6, q, rfl, hq6, hcp⟩
    have HU6 : Hid (Upd [] w w6) := HU5.out.trans hu6
    have HP6 : Hid (PpAt w6 p root n) := HPT.out.upd hu6
    have HC6 : Hid (CpAt w6 q (Sp.comp t ⟨[], 0⟩).1 (Sp.comp t ⟨[], 0⟩).2) := hcp
    clear hu6 hcp HPT
    go_wp2_with fail
    refine (sGroups_any p root n _ (by exact HP6.out)).mono ?_
    rintro e w7 ⟨rfl, hw7⟩
    rw [hw7]
    clear hw7 w7
    go_wp2_with fail
    refine (refGroups q _ _ _ (by exact HC6.out)).mono ?_
    rw [HT.out]
    rintro e w7 ⟨rfl, n7, hw7⟩
    rw [hw7]
    clear hw7 w7
    go_wp2_with fail
    go_ret
    exact ⟨rfl, HU6.out.drewN⟩
end Go.Proofs.YtcpfpnjkfahjcaaDoor
