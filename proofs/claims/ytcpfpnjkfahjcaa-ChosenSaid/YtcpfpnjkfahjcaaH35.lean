import Derived.Test.YtcpfpnjkfahjcaaH34
import Derived.Test.YtcpfpnjkfahjcaaH33
set_option linter.unusedSimpArgs false
set_option linter.unusedVariables false
namespace Go.Proofs.Ytcpfpnjkfahjcaa
open Go.RowKit

/-- Kept from simp. -/
def catL (a b : List UInt8) : List UInt8 := a ++ b
theorem catL_len (a b : List UInt8) : (catL a b).length = a.length + b.length := by simp [catL]
theorem strL_append (a b : List UInt8) : str a ++ str b = str (a ++ b) := by
  apply ByteArray.ext; simp [str]
theorem addL (a b : List UInt8) (ha : a.length ≤ 8000000) (hb : b.length ≤ 8000000) (w : World) : (Op.stringOp .add (str a) (str b)).run Try.prog w = .ok (.string (str (catL a b))) w := by
  rw [run_string_add (P := Try.prog) (w := w) (str a) (str b) (by rw [Sp.str_size]; omega) (by rw [Sp.str_size]; omega), strL_append]; rfl

/-- A tree that was read: its groups. -/
structure ReadT (t : Tr) (n : Nat) : Prop where
  can : Sp.Can [t]
  num : Sp.NumIn 0 n [t]
theorem ReadT.of {s : ByteArray} {t : Tr} {n : Int} (h : Sp.read s = .ok (t, n)) : ReadT t n.toNat := by
  have hn := Sp.read_num h
  refine ⟨Sp.read_can h, ?_⟩
  have : ((n.toNat : Nat) : Int) = n := by omega
  rw [this]; exact hn.2
theorem ReadT.gr {t : Tr} {n : Nat} (h : ReadT t n) (s : ByteArray) (i j : Nat) : ∀ x ∈ (Sp.sem s t).g i j, 0 < x.1 ∧ x.1 ≤ n := fun x hx => by
  have := Sp.sem_num s h.num h.can i j x hx
  have h1 := this.1
  have h2 := this.2
  omega
theorem ReadT.zero {t : Tr} {n : Nat} (h : ReadT t n) (s : ByteArray) (k z : Nat) : Sp.spansOf ((Sp.sem s t).g 0 k) z 0 = (0, (z : Int)) :=
  Sp.spansOf_zero _ _ (fun x hx => by have := h.gr s 0 k x hx; omega)
theorem mv_zero (x : Int × Int) : Sp.mv ((0 : Nat) : Int) x = x := by
  unfold Sp.mv; split
  · simp
  · rfl
theorem wholeS_some {t : Tr} {s : ByteArray} {f : Nat → Int × Int} (h : wholeS t s = some f) : (Sp.sem s t).m 0 s.size = true ∧ f = Sp.spansOf ((Sp.sem s t).g 0 s.size) s.size := by
  unfold wholeS at h
  split at h
  · rename_i q; cases h; exact ⟨q, rfl⟩
  · cases h
theorem wholeS_none {t : Tr} {s : ByteArray} (h : wholeS t s = none) : (Sp.sem s t).m 0 s.size = false := by
  unfold wholeS at h
  split at h
  · cases h
  · rename_i q; simpa using q
theorem wholeS_is {t : Tr} {s : ByteArray} (h : (Sp.sem s t).m 0 s.size = true) : wholeS t s = some (Sp.spansOf ((Sp.sem s t).g 0 s.size) s.size) := by
  unfold wholeS; rw [if_pos h]
theorem wholeS_not {t : Tr} {s : ByteArray} (h : (Sp.sem s t).m 0 s.size = false) : wholeS t s = none := by
  unfold wholeS; rw [h]; rfl
/-- What was told is within bounds. -/
theorem wholeS_bd {t : Tr} {s : ByteArray} (hs : s.size ≤ 1000) {f : Nat → Int × Int} (h : wholeS t s = some f) : ∀ k, -1 ≤ (f k).1 ∧ (f k).1 ≤ 1000 ∧ -1 ≤ (f k).2 ∧ (f k).2 ≤ 1000 := by
  obtain ⟨hm, rfl⟩ := wholeS_some h
  intro k
  rcases spans_in t s s.size k hm with q | q
  · rw [q]; simp
  · omega

theorem chosen_0 {ta tb : Tr} {S : ByteArray} {n : Nat} (hb : ReadT tb n) (na : Nat) (h1 : wholeS ta S = none) (h2 : wholeS tb S = none) : wholeS (Sp.chosenT ta (Sp.renT na tb)) S = none := by
  refine wholeS_not ?_
  rw [Sp.chosen_m, (Sp.sem_r S hb.can).m, wholeS_none h1, wholeS_none h2]; rfl
theorem chosen_1 {ta tb : Tr} {S : ByteArray} {na nb : Nat} (ha : ReadT ta na) (hb : ReadT tb nb) {fa : Nat → Int × Int} (h1 : wholeS ta S = some fa) :
    ∃ f, wholeS (Sp.chosenT ta (Sp.renT na tb)) S = some f ∧ ∀ k, k < 1 + na + nb → f k = wholeF S.size na (fun k => Sp.mv ((0 : Nat) : Int) (fa (k + 1))) Sp.nowh k := by
  obtain ⟨hm, rfl⟩ := wholeS_some h1
  refine ⟨_, wholeS_is (by rw [Sp.chosen_m, hm]; rfl), fun k hk => ?_⟩
  rw [Sp.chosen_g1 _ _ _ _ _ hm]
  unfold wholeF
  by_cases h0 : k = 0
  · subst h0; rw [if_pos rfl, ha.zero]
  · rw [if_neg h0]
    by_cases h2 : k < 1 + na
    · rw [if_pos h2]
      simp only
      rw [mv_zero, show k - 1 + 1 = k by omega]
    · rw [if_neg h2, Sp.spansOf_pos _ _ _ h0]
      exact Sp.puts_none _ _ (fun x hx => by have := ha.gr S 0 S.size x hx; omega)
theorem chosen_2 {ta tb : Tr} {S : ByteArray} {na nb : Nat} (ha : ReadT ta na) (hb : ReadT tb nb) {fb : Nat → Int × Int} (h1 : wholeS ta S = none) (h2 : wholeS tb S = some fb) :
    ∃ f, wholeS (Sp.chosenT ta (Sp.renT na tb)) S = some f ∧ ∀ k, k < 1 + na + nb → f k = wholeF S.size na Sp.nowh (fun k => Sp.mv ((0 : Nat) : Int) (fb (k + 1))) k := by
  obtain ⟨hm, rfl⟩ := wholeS_some h2
  have hr := Sp.sem_r (n := na) S hb.can
  have hm' : (Sp.sem S (Sp.renT na tb)).m 0 S.size = true := by rw [hr.m]; exact hm
  refine ⟨_, wholeS_is (by rw [Sp.chosen_m, hm']; simp), fun k hk => ?_⟩
  rw [Sp.chosen_g2 _ _ _ _ _ (wholeS_none h1) hm', hr.g]
  unfold wholeF
  have hx : ∀ x ∈ ((Sp.sem S tb).g 0 S.size).map (Sp.rn na), na < x.1 := fun x hx => by
    obtain ⟨y, h3, rfl⟩ := List.mem_map.mp hx
    have := hb.gr S 0 S.size y h3
    show na < y.1 + na
    omega
  by_cases h0 : k = 0
  · subst h0; rw [if_pos rfl]
    exact Sp.spansOf_zero _ _ (fun x hx' => by have := hx x hx'; omega)
  · rw [if_neg h0, Sp.spansOf_pos _ _ _ h0]
    by_cases h2 : k < 1 + na
    · rw [if_pos h2]
      exact Sp.puts_none _ _ (fun x hx' => by have := hx x hx'; omega)
    · rw [if_neg h2]
      obtain ⟨j, rfl⟩ : ∃ j, k = j + na := ⟨k - na, by omega⟩
      simp only
      rw [Sp.puts_rn, mv_zero, show j + na - 1 - na + 1 = j by omega, Sp.spansOf_pos _ _ _ (by omega)]
end Go.Proofs.Ytcpfpnjkfahjcaa

set_option linter.unusedSimpArgs false
set_option linter.unusedVariables false
namespace Go.Proofs.Ytcpfpnjkfahjcaa
open Go.RowKit

set_option maxRecDepth 8000 in
set_option maxHeartbeats 1600000 in
theorem chosen_ee (a b s : ByteArray) (ea aa : Int) (eb ab : Int) (w : World) (hr2 : Sp.read a = .error (ea, aa)) (hr3 : Sp.read b = .error (eb, ab)) : Calls Try.prog 3 #[.string a, .string b, .string s] w fun e w' => e = .returned (.bool true) ∧ Upd [] w w' := by
  have HR2 : Hid (Sp.read a = .error (ea, aa)) := hr2
  have hea : ea ≠ 0 := Sp.read_code hr2
  have hba : (ea != 0) = true := by simpa using hea
  have HR3 : Hid (Sp.read b = .error (eb, ab)) := hr3
  have heb : eb ≠ 0 := Sp.read_code hr3
  have hbb : (eb != 0) = true := by simpa using heb
  clear hr2 hr3
  go_enter Try.func3, Try.ntmps3
  go_wp2_with fail
  refine (begun_any _).mono ?_
  rintro e w1 ⟨rfl, u1⟩
  have U1 : Hid (Upd [] w w1) := u1
  clear u1
  go_wp2_with fail
  refine (comp_no a ea aa _ HR2.out).mono ?_
  rintro e w2 ⟨rfl, u2⟩
  have U2 : Hid (Upd [] w w2) := U1.out.trans u2
  clear u2
  go_wp2_with fail
  refine (comp_no b eb ab _ HR3.out).mono ?_
  rintro e w3 ⟨rfl, u3⟩
  have U3 : Hid (Upd [] w w3) := U2.out.trans u3
  clear u3
  go_wp2_with fail
  refine (short_any s 100 _ (by omega)).mono ?_
  rintro e w4 ⟨rfl, hw4⟩
  rw [hw4]
  clear hw4 w4
  go_wp2_with fail
  go_ret
  exact ⟨rfl, U3.out⟩

set_option maxRecDepth 8000 in
set_option maxHeartbeats 1600000 in
theorem chosen_eo (a b s : ByteArray) (ea aa : Int) (tb : Tr) (nb : Int) (w : World) (hr2 : Sp.read a = .error (ea, aa)) (hr3 : Sp.read b = .ok (tb, nb)) : Calls Try.prog 3 #[.string a, .string b, .string s] w fun e w' => e = .returned (.bool true) ∧ Upd [] w w' := by
  have HR2 : Hid (Sp.read a = .error (ea, aa)) := hr2
  have hea : ea ≠ 0 := Sp.read_code hr2
  have hba : (ea != 0) = true := by simpa using hea
  have HR3 : Hid (Sp.read b = .ok (tb, nb)) := hr3
  clear hr2 hr3
  go_enter Try.func3, Try.ntmps3
  go_wp2_with fail
  refine (begun_any _).mono ?_
  rintro e w1 ⟨rfl, u1⟩
  have U1 : Hid (Upd [] w w1) := u1
  clear u1
  go_wp2_with fail
  refine (comp_no a ea aa _ HR2.out).mono ?_
  rintro e w2 ⟨rfl, u2⟩
  have U2 : Hid (Upd [] w w2) := U1.out.trans u2
  clear u2
  go_wp2_with fail
  refine (comp_yes b tb nb _ HR3.out).mono ?_
  rintro e w3 ⟨q, rfl, hq, h3, u3⟩
  have U3 : Hid (Upd [] w w3) := U2.out.trans u3
  have P3 : Hid (PatAt w3 q tb nb.toNat) := h3
  clear u3 h3
  go_wp2_with fail
  refine (short_any s 100 _ (by omega)).mono ?_
  rintro e w4 ⟨rfl, hw4⟩
  rw [hw4]
  clear hw4 w4
  go_wp2_with fail
  go_ret
  exact ⟨rfl, U3.out⟩

set_option maxRecDepth 8000 in
set_option maxHeartbeats 1600000 in
theorem chosen_oe (a b s : ByteArray) (ta : Tr) (na : Int) (eb ab : Int) (w : World) (hr2 : Sp.read a = .ok (ta, na)) (hr3 : Sp.read b = .error (eb, ab)) : Calls Try.prog 3 #[.string a, .string b, .string s] w fun e w' => e = .returned (.bool true) ∧ Upd [] w w' := by
  have HR2 : Hid (Sp.read a = .ok (ta, na)) := hr2
  have HR3 : Hid (Sp.read b = .error (eb, ab)) := hr3
  have heb : eb ≠ 0 := Sp.read_code hr3
  have hbb : (eb != 0) = true := by simpa using heb
  clear hr2 hr3
  go_enter Try.func3, Try.ntmps3
  go_wp2_with fail
  refine (begun_any _).mono ?_
  rintro e w1 ⟨rfl, u1⟩
  have U1 : Hid (Upd [] w w1) := u1
  clear u1
  go_wp2_with fail
  refine (comp_yes a ta na _ HR2.out).mono ?_
  rintro e w2 ⟨p, rfl, hp, h2, u2⟩
  have U2 : Hid (Upd [] w w2) := U1.out.trans u2
  have P2 : Hid (PatAt w2 p ta na.toNat) := h2
  clear u2 h2
  go_wp2_with fail
  refine (comp_no b eb ab _ HR3.out).mono ?_
  rintro e w3 ⟨rfl, u3⟩
  have U3 : Hid (Upd [] w w3) := U2.out.trans u3
  clear u3
  go_wp2_with fail
  refine (short_any s 100 _ (by omega)).mono ?_
  rintro e w4 ⟨rfl, hw4⟩
  rw [hw4]
  clear hw4 w4
  go_wp2_with fail
  go_ret
  exact ⟨rfl, U3.out⟩

set_option maxRecDepth 8000 in
set_option maxHeartbeats 1600000 in
theorem chosen_lim (A B : List UInt8) (s : ByteArray) (ta tb : Tr) (na nb : Int) (e1 a1 : Int) (w : World) (hr2 : Sp.read (str A) = .ok (ta, na)) (hr3 : Sp.read (str B) = .ok (tb, nb)) (hr4 : Sp.read (str (Sp.chosenS A B)) = .error (e1, a1)) (hl : e1 = 2 ∨ e1 = 5 ∨ e1 = 6 ∨ e1 = 7) : Calls Try.prog 3 #[.string (str A), .string (str B), .string s] w fun e w' => e = .returned (.bool true) ∧ Upd [] w w' := by
  have HR2 : Hid (Sp.read (str A) = .ok (ta, na)) := hr2
  have HR3 : Hid (Sp.read (str B) = .ok (tb, nb)) := hr3
  have hz : (cutS s 100).size ≤ 100 := by rw [cutS_size]; omega
  have hA : A.length ≤ 200 := by have := (Sp.read_choice hr2).1; rwa [Sp.str_size] at this
  have hB : B.length ≤ 200 := by have := (Sp.read_choice hr3).1; rwa [Sp.str_size] at this
  have k1 : ∀ w, (Op.stringOp .add ⟨#[40, 63, 58]⟩ (str A)).run Try.prog w = .ok (.string (str (catL [40, 63, 58] A))) w := addL [40, 63, 58] A (by simp) (by omega)
  have k2 : ∀ w, (Op.stringOp .add (str (catL [40, 63, 58] A)) ⟨#[41, 124, 40, 63, 58]⟩).run Try.prog w = .ok (.string (str (catL (catL [40, 63, 58] A) [41, 124, 40, 63, 58]))) w := addL _ [41, 124, 40, 63, 58] (by rw [catL_len]; simp; omega) (by simp)
  have k3 : ∀ w, (Op.stringOp .add (str (catL (catL [40, 63, 58] A) [41, 124, 40, 63, 58])) (str B)).run Try.prog w = .ok (.string (str (catL (catL (catL [40, 63, 58] A) [41, 124, 40, 63, 58]) B))) w := addL _ B (by rw [catL_len, catL_len]; simp; omega) (by omega)
  have k4 : ∀ w, (Op.stringOp .add (str (catL (catL (catL [40, 63, 58] A) [41, 124, 40, 63, 58]) B)) ⟨#[41]⟩).run Try.prog w = .ok (.string (str (catL (catL (catL (catL [40, 63, 58] A) [41, 124, 40, 63, 58]) B) [41]))) w := addL _ [41] (by rw [catL_len, catL_len, catL_len]; simp; omega) (by simp)
  have HR4 : Hid (Sp.read (str (catL (catL (catL (catL [40, 63, 58] A) [41, 124, 40, 63, 58]) B) [41])) = .error (e1, a1)) := hr4
  have HL : Hid (e1 = 2 ∨ e1 = 5 ∨ e1 = 6 ∨ e1 = 7) := hl
  clear hr2 hr3 hr4 hl
  go_enter Try.func3, Try.ntmps3
  go_wp2_with fail
  refine (begun_any _).mono ?_
  rintro e w1 ⟨rfl, u1⟩
  have U1 : Hid (Upd [] w w1) := u1
  clear u1
  go_wp2_with fail
  refine (comp_yes (str A) ta na _ HR2.out).mono ?_
  rintro e w2 ⟨p, rfl, hp, h2, u2⟩
  have U2 : Hid (Upd [] w w2) := U1.out.trans u2
  have P2 : Hid (PatAt w2 p ta na.toNat) := h2
  clear u2 h2
  go_wp2_with fail
  refine (comp_yes (str B) tb nb _ HR3.out).mono ?_
  rintro e w3 ⟨q, rfl, hq, h3, u3⟩
  have U3 : Hid (Upd [] w w3) := U2.out.trans u3
  have P3 : Hid (PatAt w3 q tb nb.toNat) := h3
  have P2b : Hid (PatAt w3 p ta na.toNat) := P2.out.upd u3
  clear u3 h3
  go_wp2_with fail
  refine (short_any s 100 _ (by omega)).mono ?_
  rintro e w4 ⟨rfl, hw4⟩
  rw [hw4]
  clear hw4 w4
  go_wp2_with fail
  refine (made_no _ e1 a1 _ HR4.out HL.out).mono ?_
  rintro e w5 ⟨rfl, u5⟩
  have U5 : Hid (Upd [] w w5) := U3.out.trans u5
  clear u5
  go_wp2_with fail
  go_ret
  exact ⟨rfl, U5.out⟩

set_option maxRecDepth 8000 in
set_option maxHeartbeats 1600000 in
theorem chosen_n (A B : List UInt8) (s : ByteArray) (ta tb : Tr) (na nb : Int) (tc : Tr) (nc : Int) (w : World) (hr2 : Sp.read (str A) = .ok (ta, na)) (hr3 : Sp.read (str B) = .ok (tb, nb)) (hr4 : Sp.read (str (Sp.chosenS A B)) = .ok (tc, nc)) (hnc : nc.toNat = na.toNat + nb.toNat) (h1 : wholeS ta (cutS s 100) = none) (h2 : wholeS tb (cutS s 100) = none) (h3 : wholeS tc (cutS s 100) = none) : Calls Try.prog 3 #[.string (str A), .string (str B), .string s] w fun e w' => e = .returned (.bool true) ∧ Upd [] w w' := by
  have HR2 : Hid (Sp.read (str A) = .ok (ta, na)) := hr2
  have HR3 : Hid (Sp.read (str B) = .ok (tb, nb)) := hr3
  have hz : (cutS s 100).size ≤ 100 := by rw [cutS_size]; omega
  have hA : A.length ≤ 200 := by have := (Sp.read_choice hr2).1; rwa [Sp.str_size] at this
  have hB : B.length ≤ 200 := by have := (Sp.read_choice hr3).1; rwa [Sp.str_size] at this
  have k1 : ∀ w, (Op.stringOp .add ⟨#[40, 63, 58]⟩ (str A)).run Try.prog w = .ok (.string (str (catL [40, 63, 58] A))) w := addL [40, 63, 58] A (by simp) (by omega)
  have k2 : ∀ w, (Op.stringOp .add (str (catL [40, 63, 58] A)) ⟨#[41, 124, 40, 63, 58]⟩).run Try.prog w = .ok (.string (str (catL (catL [40, 63, 58] A) [41, 124, 40, 63, 58]))) w := addL _ [41, 124, 40, 63, 58] (by rw [catL_len]; simp; omega) (by simp)
  have k3 : ∀ w, (Op.stringOp .add (str (catL (catL [40, 63, 58] A) [41, 124, 40, 63, 58])) (str B)).run Try.prog w = .ok (.string (str (catL (catL (catL [40, 63, 58] A) [41, 124, 40, 63, 58]) B))) w := addL _ B (by rw [catL_len, catL_len]; simp; omega) (by omega)
  have k4 : ∀ w, (Op.stringOp .add (str (catL (catL (catL [40, 63, 58] A) [41, 124, 40, 63, 58]) B)) ⟨#[41]⟩).run Try.prog w = .ok (.string (str (catL (catL (catL (catL [40, 63, 58] A) [41, 124, 40, 63, 58]) B) [41]))) w := addL _ [41] (by rw [catL_len, catL_len, catL_len]; simp; omega) (by simp)
  have HS : Hid (wholeS ta (cutS s 100) = none ∧ wholeS tb (cutS s 100) = none ∧ wholeS tc (cutS s 100) = none) := ⟨h1, h2, h3⟩
  have HNC : Hid (nc.toNat = na.toNat + nb.toNat) := hnc
  clear h1 h2 h3 hnc
  have HR4 : Hid (Sp.read (str (catL (catL (catL (catL [40, 63, 58] A) [41, 124, 40, 63, 58]) B) [41])) = .ok (tc, nc)) := hr4
  clear hr2 hr3 hr4
  go_enter Try.func3, Try.ntmps3
  go_wp2_with fail
  refine (begun_any _).mono ?_
  rintro e w1 ⟨rfl, u1⟩
  have U1 : Hid (Upd [] w w1) := u1
  clear u1
  go_wp2_with fail
  refine (comp_yes (str A) ta na _ HR2.out).mono ?_
  rintro e w2 ⟨p, rfl, hp, h2, u2⟩
  have U2 : Hid (Upd [] w w2) := U1.out.trans u2
  have P2 : Hid (PatAt w2 p ta na.toNat) := h2
  clear u2 h2
  go_wp2_with fail
  refine (comp_yes (str B) tb nb _ HR3.out).mono ?_
  rintro e w3 ⟨q, rfl, hq, h3, u3⟩
  have U3 : Hid (Upd [] w w3) := U2.out.trans u3
  have P3 : Hid (PatAt w3 q tb nb.toNat) := h3
  have P2b : Hid (PatAt w3 p ta na.toNat) := P2.out.upd u3
  clear u3 h3
  go_wp2_with fail
  refine (short_any s 100 _ (by omega)).mono ?_
  rintro e w4 ⟨rfl, hw4⟩
  rw [hw4]
  clear hw4 w4
  revert hz HS
  generalize cutS s 100 = S
  intro hz HS
  go_wp2_with fail
  refine (made_yes _ tc nc _ HR4.out).mono ?_
  rintro e w5 ⟨r, rfl, h5, u5⟩
  have U5 : Hid (Upd [] w w5) := U3.out.trans u5
  have P5 : Hid (PatAt w5 r tc nc.toNat) := h5
  have P5a : Hid (PatAt w5 p ta na.toNat) := P2b.out.upd u5
  have P5b : Hid (PatAt w5 q tb nb.toNat) := P3.out.upd u5
  have na9 : na.toNat ≤ 9 := P5a.out.1
  have nb9 : nb.toNat ≤ 9 := P5b.out.1
  have nc9 : nc.toNat ≤ 9 := P5.out.1
  clear u5 h5 P2 P2b P3
  generalize na.toNat = N at *
  generalize nb.toNat = M at *
  generalize nc.toNat = L at *
  go_wp2_with fail
  have P5p := P5a
  have P5q := P5b
  have P5r := P5
  refine (of_no p ta N S _ hz P5p.out HS.out.1).mono ?_
  rintro e w6 ⟨rfl, u6⟩
  have U6 : Hid (Upd [] w w6) := U5.out.trans u6
  have P6p : Hid (PatAt w6 p ta N) := P5p.out.upd u6
  have P6q : Hid (PatAt w6 q tb M) := P5q.out.upd u6
  have P6r : Hid (PatAt w6 r tc L) := P5r.out.upd u6
  clear u6
  go_wp2_with fail
  refine (of_no q tb M S _ hz P6q.out HS.out.2.1).mono ?_
  rintro e w7 ⟨rfl, u7⟩
  have U7 : Hid (Upd [] w w7) := U6.out.trans u7
  have P7p : Hid (PatAt w7 p ta N) := P6p.out.upd u7
  have P7q : Hid (PatAt w7 q tb M) := P6q.out.upd u7
  have P7r : Hid (PatAt w7 r tc L) := P6r.out.upd u7
  clear u7
  go_wp2_with fail
  refine (of_no r tc L S _ hz P7r.out HS.out.2.2).mono ?_
  rintro e w8 ⟨rfl, u8⟩
  have U8 : Hid (Upd [] w w8) := U7.out.trans u8
  have P8p : Hid (PatAt w8 p ta N) := P7p.out.upd u8
  have P8q : Hid (PatAt w8 q tb M) := P7q.out.upd u8
  have P8r : Hid (PatAt w8 r tc L) := P7r.out.upd u8
  clear u8
  go_wp2_with fail
  refine (groups_any p ta N _ P8p.out).mono ?_
  rintro e w9 ⟨rfl, hw9⟩
  rw [hw9]
  clear hw9 w9
  go_wp2_with fail
  refine (groups_any q tb M _ P8q.out).mono ?_
  rintro e w9 ⟨rfl, hw9⟩
  rw [hw9]
  clear hw9 w9
  go_wp2_with fail
  refine (same_any (.slice none 0 0) (.slice none 0 0) 0 0 Sp.nowh Sp.nowh _ (SpL.nil _ _) (SpL.nil _ _) (by omega) (by omega)).mono ?_
  rintro e w10 ⟨rfl, q10, rfl⟩
  have hsb : sameB 0 Sp.nowh 0 Sp.nowh = true := by simp [sameB]
  rw [hsb]
  go_wp2_with fail
  go_ret
  exact ⟨rfl, U8.out.trans (by (repeat (first | exact Upd.refl _ _ | refine Upd.drewN ?_ | refine Upd.drew ?_ | refine Upd.setCell ?_ (by simp) _ | refine Upd.alloc ?_ _)))⟩

set_option maxRecDepth 8000 in
set_option maxHeartbeats 1600000 in
theorem chosen_a (A B : List UInt8) (s : ByteArray) (ta tb : Tr) (na nb : Int) (tc : Tr) (nc : Int) (fa : Nat → Int × Int) (fc : Nat → Int × Int) (w : World) (hr2 : Sp.read (str A) = .ok (ta, na)) (hr3 : Sp.read (str B) = .ok (tb, nb)) (hr4 : Sp.read (str (Sp.chosenS A B)) = .ok (tc, nc)) (hnc : nc.toNat = na.toNat + nb.toNat) (h1 : wholeS ta (cutS s 100) = some fa) (h2 : wholeS tb (cutS s 100) = none) (h3 : wholeS tc (cutS s 100) = some fc) (h4 : ∀ k, k < 1 + na.toNat + nb.toNat → fc k = wholeF (cutS s 100).size na.toNat (fun k => Sp.mv ((0 : Nat) : Int) (fa (k + 1))) Sp.nowh k) : Calls Try.prog 3 #[.string (str A), .string (str B), .string s] w fun e w' => e = .returned (.bool true) ∧ Upd [] w w' := by
  have HR2 : Hid (Sp.read (str A) = .ok (ta, na)) := hr2
  have HR3 : Hid (Sp.read (str B) = .ok (tb, nb)) := hr3
  have hz : (cutS s 100).size ≤ 100 := by rw [cutS_size]; omega
  have hA : A.length ≤ 200 := by have := (Sp.read_choice hr2).1; rwa [Sp.str_size] at this
  have hB : B.length ≤ 200 := by have := (Sp.read_choice hr3).1; rwa [Sp.str_size] at this
  have k1 : ∀ w, (Op.stringOp .add ⟨#[40, 63, 58]⟩ (str A)).run Try.prog w = .ok (.string (str (catL [40, 63, 58] A))) w := addL [40, 63, 58] A (by simp) (by omega)
  have k2 : ∀ w, (Op.stringOp .add (str (catL [40, 63, 58] A)) ⟨#[41, 124, 40, 63, 58]⟩).run Try.prog w = .ok (.string (str (catL (catL [40, 63, 58] A) [41, 124, 40, 63, 58]))) w := addL _ [41, 124, 40, 63, 58] (by rw [catL_len]; simp; omega) (by simp)
  have k3 : ∀ w, (Op.stringOp .add (str (catL (catL [40, 63, 58] A) [41, 124, 40, 63, 58])) (str B)).run Try.prog w = .ok (.string (str (catL (catL (catL [40, 63, 58] A) [41, 124, 40, 63, 58]) B))) w := addL _ B (by rw [catL_len, catL_len]; simp; omega) (by omega)
  have k4 : ∀ w, (Op.stringOp .add (str (catL (catL (catL [40, 63, 58] A) [41, 124, 40, 63, 58]) B)) ⟨#[41]⟩).run Try.prog w = .ok (.string (str (catL (catL (catL (catL [40, 63, 58] A) [41, 124, 40, 63, 58]) B) [41]))) w := addL _ [41] (by rw [catL_len, catL_len, catL_len]; simp; omega) (by simp)
  have HS : Hid (wholeS ta (cutS s 100) = some fa ∧ wholeS tb (cutS s 100) = none ∧ wholeS tc (cutS s 100) = some fc ∧ (∀ k, k < 1 + na.toNat + nb.toNat → fc k = wholeF (cutS s 100).size na.toNat (fun k => Sp.mv ((0 : Nat) : Int) (fa (k + 1))) Sp.nowh k)) := ⟨h1, h2, h3, h4⟩
  have HNC : Hid (nc.toNat = na.toNat + nb.toNat) := hnc
  clear h4
  clear h1 h2 h3 hnc
  have HR4 : Hid (Sp.read (str (catL (catL (catL (catL [40, 63, 58] A) [41, 124, 40, 63, 58]) B) [41])) = .ok (tc, nc)) := hr4
  clear hr2 hr3 hr4
  go_enter Try.func3, Try.ntmps3
  go_wp2_with fail
  refine (begun_any _).mono ?_
  rintro e w1 ⟨rfl, u1⟩
  have U1 : Hid (Upd [] w w1) := u1
  clear u1
  go_wp2_with fail
  refine (comp_yes (str A) ta na _ HR2.out).mono ?_
  rintro e w2 ⟨p, rfl, hp, h2, u2⟩
  have U2 : Hid (Upd [] w w2) := U1.out.trans u2
  have P2 : Hid (PatAt w2 p ta na.toNat) := h2
  clear u2 h2
  go_wp2_with fail
  refine (comp_yes (str B) tb nb _ HR3.out).mono ?_
  rintro e w3 ⟨q, rfl, hq, h3, u3⟩
  have U3 : Hid (Upd [] w w3) := U2.out.trans u3
  have P3 : Hid (PatAt w3 q tb nb.toNat) := h3
  have P2b : Hid (PatAt w3 p ta na.toNat) := P2.out.upd u3
  clear u3 h3
  go_wp2_with fail
  refine (short_any s 100 _ (by omega)).mono ?_
  rintro e w4 ⟨rfl, hw4⟩
  rw [hw4]
  clear hw4 w4
  revert hz HS
  generalize cutS s 100 = S
  intro hz HS
  go_wp2_with fail
  refine (made_yes _ tc nc _ HR4.out).mono ?_
  rintro e w5 ⟨r, rfl, h5, u5⟩
  have U5 : Hid (Upd [] w w5) := U3.out.trans u5
  have P5 : Hid (PatAt w5 r tc nc.toNat) := h5
  have P5a : Hid (PatAt w5 p ta na.toNat) := P2b.out.upd u5
  have P5b : Hid (PatAt w5 q tb nb.toNat) := P3.out.upd u5
  have na9 : na.toNat ≤ 9 := P5a.out.1
  have nb9 : nb.toNat ≤ 9 := P5b.out.1
  have nc9 : nc.toNat ≤ 9 := P5.out.1
  clear u5 h5 P2 P2b P3
  generalize na.toNat = N at *
  generalize nb.toNat = M at *
  generalize nc.toNat = L at *
  go_wp2_with fail
  have P5p := P5a
  have P5q := P5b
  have P5r := P5
  refine (of_yes p ta N S _ hz P5p.out HS.out.1).mono ?_
  rintro e w6 ⟨g6, hg6, rfl, s6, u6⟩
  have U6 : Hid (Upd [] w w6) := U5.out.trans u6
  have G6_6 : Hid (SpansAt w6 g6 (N + 1) fa) := s6
  have P6p : Hid (PatAt w6 p ta N) := P5p.out.upd u6
  have P6q : Hid (PatAt w6 q tb M) := P5q.out.upd u6
  have P6r : Hid (PatAt w6 r tc L) := P5r.out.upd u6
  clear u6 s6
  unfold spansV
  go_wp2_with fail
  refine (of_no q tb M S _ hz P6q.out HS.out.2.1).mono ?_
  rintro e w7 ⟨rfl, u7⟩
  have U7 : Hid (Upd [] w w7) := U6.out.trans u7
  have P7p : Hid (PatAt w7 p ta N) := P6p.out.upd u7
  have P7q : Hid (PatAt w7 q tb M) := P6q.out.upd u7
  have P7r : Hid (PatAt w7 r tc L) := P6r.out.upd u7
  have G6_7 : Hid (SpansAt w7 g6 (N + 1) fa) := (u7.block g6 (lt_of_heap G6_6.out) (by simp)).trans G6_6.out
  clear u7
  go_wp2_with fail
  refine (of_yes r tc L S _ hz P7r.out HS.out.2.2.1).mono ?_
  rintro e w8 ⟨g8, hg8, rfl, s8, u8⟩
  have U8 : Hid (Upd [] w w8) := U7.out.trans u8
  have G8_8 : Hid (SpansAt w8 g8 (L + 1) fc) := s8
  have P8p : Hid (PatAt w8 p ta N) := P7p.out.upd u8
  have P8q : Hid (PatAt w8 q tb M) := P7q.out.upd u8
  have P8r : Hid (PatAt w8 r tc L) := P7r.out.upd u8
  have G6_8 : Hid (SpansAt w8 g6 (N + 1) fa) := (u8.block g6 (lt_of_heap G6_7.out) (by simp)).trans G6_7.out
  clear u8 s8
  unfold spansV
  go_wp2_with fail
  refine (groups_any p ta N _ P8p.out).mono ?_
  rintro e w9 ⟨rfl, hw9⟩
  rw [hw9]
  clear hw9 w9
  go_wp2_with fail
  refine (groups_any q tb M _ P8q.out).mono ?_
  rintro e w9 ⟨rfl, hw9⟩
  rw [hw9]
  clear hw9 w9
  go_wp2_with fail
  refine (moved_any (.slice (some ⟨g6, 0, none⟩) (N + 1) (N + 1)) (N + 1) 0 fa _ (SpansAt.own G6_8.out (by omega)) (by omega) (by omega) (fun k _ => wholeS_bd (by omega) HS.out.1 k)).mono ?_
  rintro e w10 ⟨v10, rfl, o10, u10⟩
  have O10 : Hid (SpO w10 w8.heap.size v10 N (fun k => Sp.mv ((0 : Nat) : Int) (fa (k + 1)))) := o10
  have U10 : Hid (Upd [] w8 w10) := u10
  clear o10 u10
  go_wp2_with fail
  refine (nowhere_any M _ (by omega)).mono ?_
  rintro e w11 ⟨v11, rfl, o11, u11⟩
  have O11 : Hid (SpO w11 w10.heap.size v11 M Sp.nowh) := o11
  have O10b : Hid (SpO w11 w8.heap.size v10 N (fun k => Sp.mv ((0 : Nat) : Int) (fa (k + 1)))) := O10.out.upd u11 (by simp)
  have U11 : Hid (Upd [] w8 w11) := U10.out.trans u11
  clear o11 u11
  go_wp2_with fail
  refine (whole_any S v10 v11 N M _ _ _ (by omega) O10b.out.l O11.out.l (by omega) (by omega)).mono ?_
  rintro e w12 ⟨v12, rfl, o12, u12⟩
  have O12 : Hid (SpO w12 w11.heap.size v12 (1 + N + M) (wholeF S.size N (fun k => Sp.mv ((0 : Nat) : Int) (fa (k + 1))) Sp.nowh)) := o12
  have U12 : Hid (Upd [] w w12) := U8.out.trans (U11.out.trans u12)
  have G8_9 : Hid (SpansAt w12 g8 (L + 1) fc) := ((U11.out.trans u12).block g8 (lt_of_heap G8_8.out) (by simp)).trans G8_8.out
  have HSB : Hid (sameB (L + 1) fc (1 + N + M) (wholeF S.size N (fun k => Sp.mv ((0 : Nat) : Int) (fa (k + 1))) Sp.nowh) = true) := (sameB_iff _ _ _ _).mpr ⟨by have := HNC.out; omega, fun k hk => HS.out.2.2.2 k (by have := HNC.out; omega)⟩
  clear o12 u12
  go_wp2_with fail
  refine (same_any (.slice (some ⟨g8, 0, none⟩) (L + 1) (L + 1)) v12 (L + 1) (1 + N + M) _ _ _ (SpansAt.own G8_9.out (by omega)) O12.out.l (by omega) (by omega)).mono ?_
  rw [HSB.out]
  rintro e w13 ⟨rfl, q13, rfl⟩
  go_wp2_with fail
  go_ret
  exact ⟨rfl, U12.out.trans (by (repeat (first | exact Upd.refl _ _ | refine Upd.drewN ?_ | refine Upd.drew ?_ | refine Upd.setCell ?_ (by simp) _ | refine Upd.alloc ?_ _)))⟩

set_option maxRecDepth 8000 in
set_option maxHeartbeats 1600000 in
theorem chosen_ab (A B : List UInt8) (s : ByteArray) (ta tb : Tr) (na nb : Int) (tc : Tr) (nc : Int) (fa : Nat → Int × Int) (fb : Nat → Int × Int) (fc : Nat → Int × Int) (w : World) (hr2 : Sp.read (str A) = .ok (ta, na)) (hr3 : Sp.read (str B) = .ok (tb, nb)) (hr4 : Sp.read (str (Sp.chosenS A B)) = .ok (tc, nc)) (hnc : nc.toNat = na.toNat + nb.toNat) (h1 : wholeS ta (cutS s 100) = some fa) (h2 : wholeS tb (cutS s 100) = some fb) (h3 : wholeS tc (cutS s 100) = some fc) (h4 : ∀ k, k < 1 + na.toNat + nb.toNat → fc k = wholeF (cutS s 100).size na.toNat (fun k => Sp.mv ((0 : Nat) : Int) (fa (k + 1))) Sp.nowh k) : Calls Try.prog 3 #[.string (str A), .string (str B), .string s] w fun e w' => e = .returned (.bool true) ∧ Upd [] w w' := by
  have HR2 : Hid (Sp.read (str A) = .ok (ta, na)) := hr2
  have HR3 : Hid (Sp.read (str B) = .ok (tb, nb)) := hr3
  have hz : (cutS s 100).size ≤ 100 := by rw [cutS_size]; omega
  have hA : A.length ≤ 200 := by have := (Sp.read_choice hr2).1; rwa [Sp.str_size] at this
  have hB : B.length ≤ 200 := by have := (Sp.read_choice hr3).1; rwa [Sp.str_size] at this
  have k1 : ∀ w, (Op.stringOp .add ⟨#[40, 63, 58]⟩ (str A)).run Try.prog w = .ok (.string (str (catL [40, 63, 58] A))) w := addL [40, 63, 58] A (by simp) (by omega)
  have k2 : ∀ w, (Op.stringOp .add (str (catL [40, 63, 58] A)) ⟨#[41, 124, 40, 63, 58]⟩).run Try.prog w = .ok (.string (str (catL (catL [40, 63, 58] A) [41, 124, 40, 63, 58]))) w := addL _ [41, 124, 40, 63, 58] (by rw [catL_len]; simp; omega) (by simp)
  have k3 : ∀ w, (Op.stringOp .add (str (catL (catL [40, 63, 58] A) [41, 124, 40, 63, 58])) (str B)).run Try.prog w = .ok (.string (str (catL (catL (catL [40, 63, 58] A) [41, 124, 40, 63, 58]) B))) w := addL _ B (by rw [catL_len, catL_len]; simp; omega) (by omega)
  have k4 : ∀ w, (Op.stringOp .add (str (catL (catL (catL [40, 63, 58] A) [41, 124, 40, 63, 58]) B)) ⟨#[41]⟩).run Try.prog w = .ok (.string (str (catL (catL (catL (catL [40, 63, 58] A) [41, 124, 40, 63, 58]) B) [41]))) w := addL _ [41] (by rw [catL_len, catL_len, catL_len]; simp; omega) (by simp)
  have HS : Hid (wholeS ta (cutS s 100) = some fa ∧ wholeS tb (cutS s 100) = some fb ∧ wholeS tc (cutS s 100) = some fc ∧ (∀ k, k < 1 + na.toNat + nb.toNat → fc k = wholeF (cutS s 100).size na.toNat (fun k => Sp.mv ((0 : Nat) : Int) (fa (k + 1))) Sp.nowh k)) := ⟨h1, h2, h3, h4⟩
  have HNC : Hid (nc.toNat = na.toNat + nb.toNat) := hnc
  clear h4
  clear h1 h2 h3 hnc
  have HR4 : Hid (Sp.read (str (catL (catL (catL (catL [40, 63, 58] A) [41, 124, 40, 63, 58]) B) [41])) = .ok (tc, nc)) := hr4
  clear hr2 hr3 hr4
  go_enter Try.func3, Try.ntmps3
  go_wp2_with fail
  refine (begun_any _).mono ?_
  rintro e w1 ⟨rfl, u1⟩
  have U1 : Hid (Upd [] w w1) := u1
  clear u1
  go_wp2_with fail
  refine (comp_yes (str A) ta na _ HR2.out).mono ?_
  rintro e w2 ⟨p, rfl, hp, h2, u2⟩
  have U2 : Hid (Upd [] w w2) := U1.out.trans u2
  have P2 : Hid (PatAt w2 p ta na.toNat) := h2
  clear u2 h2
  go_wp2_with fail
  refine (comp_yes (str B) tb nb _ HR3.out).mono ?_
  rintro e w3 ⟨q, rfl, hq, h3, u3⟩
  have U3 : Hid (Upd [] w w3) := U2.out.trans u3
  have P3 : Hid (PatAt w3 q tb nb.toNat) := h3
  have P2b : Hid (PatAt w3 p ta na.toNat) := P2.out.upd u3
  clear u3 h3
  go_wp2_with fail
  refine (short_any s 100 _ (by omega)).mono ?_
  rintro e w4 ⟨rfl, hw4⟩
  rw [hw4]
  clear hw4 w4
  revert hz HS
  generalize cutS s 100 = S
  intro hz HS
  go_wp2_with fail
  refine (made_yes _ tc nc _ HR4.out).mono ?_
  rintro e w5 ⟨r, rfl, h5, u5⟩
  have U5 : Hid (Upd [] w w5) := U3.out.trans u5
  have P5 : Hid (PatAt w5 r tc nc.toNat) := h5
  have P5a : Hid (PatAt w5 p ta na.toNat) := P2b.out.upd u5
  have P5b : Hid (PatAt w5 q tb nb.toNat) := P3.out.upd u5
  have na9 : na.toNat ≤ 9 := P5a.out.1
  have nb9 : nb.toNat ≤ 9 := P5b.out.1
  have nc9 : nc.toNat ≤ 9 := P5.out.1
  clear u5 h5 P2 P2b P3
  generalize na.toNat = N at *
  generalize nb.toNat = M at *
  generalize nc.toNat = L at *
  go_wp2_with fail
  have P5p := P5a
  have P5q := P5b
  have P5r := P5
  refine (of_yes p ta N S _ hz P5p.out HS.out.1).mono ?_
  rintro e w6 ⟨g6, hg6, rfl, s6, u6⟩
  have U6 : Hid (Upd [] w w6) := U5.out.trans u6
  have G6_6 : Hid (SpansAt w6 g6 (N + 1) fa) := s6
  have P6p : Hid (PatAt w6 p ta N) := P5p.out.upd u6
  have P6q : Hid (PatAt w6 q tb M) := P5q.out.upd u6
  have P6r : Hid (PatAt w6 r tc L) := P5r.out.upd u6
  clear u6 s6
  unfold spansV
  go_wp2_with fail
  refine (of_yes q tb M S _ hz P6q.out HS.out.2.1).mono ?_
  rintro e w7 ⟨g7, hg7, rfl, s7, u7⟩
  have U7 : Hid (Upd [] w w7) := U6.out.trans u7
  have G7_7 : Hid (SpansAt w7 g7 (M + 1) fb) := s7
  have P7p : Hid (PatAt w7 p ta N) := P6p.out.upd u7
  have P7q : Hid (PatAt w7 q tb M) := P6q.out.upd u7
  have P7r : Hid (PatAt w7 r tc L) := P6r.out.upd u7
  have G6_7 : Hid (SpansAt w7 g6 (N + 1) fa) := (u7.block g6 (lt_of_heap G6_6.out) (by simp)).trans G6_6.out
  clear u7 s7
  unfold spansV
  go_wp2_with fail
  refine (of_yes r tc L S _ hz P7r.out HS.out.2.2.1).mono ?_
  rintro e w8 ⟨g8, hg8, rfl, s8, u8⟩
  have U8 : Hid (Upd [] w w8) := U7.out.trans u8
  have G8_8 : Hid (SpansAt w8 g8 (L + 1) fc) := s8
  have P8p : Hid (PatAt w8 p ta N) := P7p.out.upd u8
  have P8q : Hid (PatAt w8 q tb M) := P7q.out.upd u8
  have P8r : Hid (PatAt w8 r tc L) := P7r.out.upd u8
  have G6_8 : Hid (SpansAt w8 g6 (N + 1) fa) := (u8.block g6 (lt_of_heap G6_7.out) (by simp)).trans G6_7.out
  have G7_8 : Hid (SpansAt w8 g7 (M + 1) fb) := (u8.block g7 (lt_of_heap G7_7.out) (by simp)).trans G7_7.out
  clear u8 s8
  unfold spansV
  go_wp2_with fail
  refine (groups_any p ta N _ P8p.out).mono ?_
  rintro e w9 ⟨rfl, hw9⟩
  rw [hw9]
  clear hw9 w9
  go_wp2_with fail
  refine (groups_any q tb M _ P8q.out).mono ?_
  rintro e w9 ⟨rfl, hw9⟩
  rw [hw9]
  clear hw9 w9
  go_wp2_with fail
  refine (moved_any (.slice (some ⟨g6, 0, none⟩) (N + 1) (N + 1)) (N + 1) 0 fa _ (SpansAt.own G6_8.out (by omega)) (by omega) (by omega) (fun k _ => wholeS_bd (by omega) HS.out.1 k)).mono ?_
  rintro e w10 ⟨v10, rfl, o10, u10⟩
  have O10 : Hid (SpO w10 w8.heap.size v10 N (fun k => Sp.mv ((0 : Nat) : Int) (fa (k + 1)))) := o10
  have U10 : Hid (Upd [] w8 w10) := u10
  clear o10 u10
  go_wp2_with fail
  refine (nowhere_any M _ (by omega)).mono ?_
  rintro e w11 ⟨v11, rfl, o11, u11⟩
  have O11 : Hid (SpO w11 w10.heap.size v11 M Sp.nowh) := o11
  have O10b : Hid (SpO w11 w8.heap.size v10 N (fun k => Sp.mv ((0 : Nat) : Int) (fa (k + 1)))) := O10.out.upd u11 (by simp)
  have U11 : Hid (Upd [] w8 w11) := U10.out.trans u11
  clear o11 u11
  go_wp2_with fail
  refine (whole_any S v10 v11 N M _ _ _ (by omega) O10b.out.l O11.out.l (by omega) (by omega)).mono ?_
  rintro e w12 ⟨v12, rfl, o12, u12⟩
  have O12 : Hid (SpO w12 w11.heap.size v12 (1 + N + M) (wholeF S.size N (fun k => Sp.mv ((0 : Nat) : Int) (fa (k + 1))) Sp.nowh)) := o12
  have U12 : Hid (Upd [] w w12) := U8.out.trans (U11.out.trans u12)
  have G8_9 : Hid (SpansAt w12 g8 (L + 1) fc) := ((U11.out.trans u12).block g8 (lt_of_heap G8_8.out) (by simp)).trans G8_8.out
  have HSB : Hid (sameB (L + 1) fc (1 + N + M) (wholeF S.size N (fun k => Sp.mv ((0 : Nat) : Int) (fa (k + 1))) Sp.nowh) = true) := (sameB_iff _ _ _ _).mpr ⟨by have := HNC.out; omega, fun k hk => HS.out.2.2.2 k (by have := HNC.out; omega)⟩
  clear o12 u12
  go_wp2_with fail
  refine (same_any (.slice (some ⟨g8, 0, none⟩) (L + 1) (L + 1)) v12 (L + 1) (1 + N + M) _ _ _ (SpansAt.own G8_9.out (by omega)) O12.out.l (by omega) (by omega)).mono ?_
  rw [HSB.out]
  rintro e w13 ⟨rfl, q13, rfl⟩
  go_wp2_with fail
  go_ret
  exact ⟨rfl, U12.out.trans (by (repeat (first | exact Upd.refl _ _ | refine Upd.drewN ?_ | refine Upd.drew ?_ | refine Upd.setCell ?_ (by simp) _ | refine Upd.alloc ?_ _)))⟩

set_option maxRecDepth 8000 in
set_option maxHeartbeats 1600000 in
theorem chosen_b (A B : List UInt8) (s : ByteArray) (ta tb : Tr) (na nb : Int) (tc : Tr) (nc : Int) (fb : Nat → Int × Int) (fc : Nat → Int × Int) (w : World) (hr2 : Sp.read (str A) = .ok (ta, na)) (hr3 : Sp.read (str B) = .ok (tb, nb)) (hr4 : Sp.read (str (Sp.chosenS A B)) = .ok (tc, nc)) (hnc : nc.toNat = na.toNat + nb.toNat) (h1 : wholeS ta (cutS s 100) = none) (h2 : wholeS tb (cutS s 100) = some fb) (h3 : wholeS tc (cutS s 100) = some fc) (h4 : ∀ k, k < 1 + na.toNat + nb.toNat → fc k = wholeF (cutS s 100).size na.toNat Sp.nowh (fun k => Sp.mv ((0 : Nat) : Int) (fb (k + 1))) k) : Calls Try.prog 3 #[.string (str A), .string (str B), .string s] w fun e w' => e = .returned (.bool true) ∧ Upd [] w w' := by
  have HR2 : Hid (Sp.read (str A) = .ok (ta, na)) := hr2
  have HR3 : Hid (Sp.read (str B) = .ok (tb, nb)) := hr3
  have hz : (cutS s 100).size ≤ 100 := by rw [cutS_size]; omega
  have hA : A.length ≤ 200 := by have := (Sp.read_choice hr2).1; rwa [Sp.str_size] at this
  have hB : B.length ≤ 200 := by have := (Sp.read_choice hr3).1; rwa [Sp.str_size] at this
  have k1 : ∀ w, (Op.stringOp .add ⟨#[40, 63, 58]⟩ (str A)).run Try.prog w = .ok (.string (str (catL [40, 63, 58] A))) w := addL [40, 63, 58] A (by simp) (by omega)
  have k2 : ∀ w, (Op.stringOp .add (str (catL [40, 63, 58] A)) ⟨#[41, 124, 40, 63, 58]⟩).run Try.prog w = .ok (.string (str (catL (catL [40, 63, 58] A) [41, 124, 40, 63, 58]))) w := addL _ [41, 124, 40, 63, 58] (by rw [catL_len]; simp; omega) (by simp)
  have k3 : ∀ w, (Op.stringOp .add (str (catL (catL [40, 63, 58] A) [41, 124, 40, 63, 58])) (str B)).run Try.prog w = .ok (.string (str (catL (catL (catL [40, 63, 58] A) [41, 124, 40, 63, 58]) B))) w := addL _ B (by rw [catL_len, catL_len]; simp; omega) (by omega)
  have k4 : ∀ w, (Op.stringOp .add (str (catL (catL (catL [40, 63, 58] A) [41, 124, 40, 63, 58]) B)) ⟨#[41]⟩).run Try.prog w = .ok (.string (str (catL (catL (catL (catL [40, 63, 58] A) [41, 124, 40, 63, 58]) B) [41]))) w := addL _ [41] (by rw [catL_len, catL_len, catL_len]; simp; omega) (by simp)
  have HS : Hid (wholeS ta (cutS s 100) = none ∧ wholeS tb (cutS s 100) = some fb ∧ wholeS tc (cutS s 100) = some fc ∧ (∀ k, k < 1 + na.toNat + nb.toNat → fc k = wholeF (cutS s 100).size na.toNat Sp.nowh (fun k => Sp.mv ((0 : Nat) : Int) (fb (k + 1))) k)) := ⟨h1, h2, h3, h4⟩
  have HNC : Hid (nc.toNat = na.toNat + nb.toNat) := hnc
  clear h4
  clear h1 h2 h3 hnc
  have HR4 : Hid (Sp.read (str (catL (catL (catL (catL [40, 63, 58] A) [41, 124, 40, 63, 58]) B) [41])) = .ok (tc, nc)) := hr4
  clear hr2 hr3 hr4
  go_enter Try.func3, Try.ntmps3
  go_wp2_with fail
  refine (begun_any _).mono ?_
  rintro e w1 ⟨rfl, u1⟩
  have U1 : Hid (Upd [] w w1) := u1
  clear u1
  go_wp2_with fail
  refine (comp_yes (str A) ta na _ HR2.out).mono ?_
  rintro e w2 ⟨p, rfl, hp, h2, u2⟩
  have U2 : Hid (Upd [] w w2) := U1.out.trans u2
  have P2 : Hid (PatAt w2 p ta na.toNat) := h2
  clear u2 h2
  go_wp2_with fail
  refine (comp_yes (str B) tb nb _ HR3.out).mono ?_
  rintro e w3 ⟨q, rfl, hq, h3, u3⟩
  have U3 : Hid (Upd [] w w3) := U2.out.trans u3
  have P3 : Hid (PatAt w3 q tb nb.toNat) := h3
  have P2b : Hid (PatAt w3 p ta na.toNat) := P2.out.upd u3
  clear u3 h3
  go_wp2_with fail
  refine (short_any s 100 _ (by omega)).mono ?_
  rintro e w4 ⟨rfl, hw4⟩
  rw [hw4]
  clear hw4 w4
  revert hz HS
  generalize cutS s 100 = S
  intro hz HS
  go_wp2_with fail
  refine (made_yes _ tc nc _ HR4.out).mono ?_
  rintro e w5 ⟨r, rfl, h5, u5⟩
  have U5 : Hid (Upd [] w w5) := U3.out.trans u5
  have P5 : Hid (PatAt w5 r tc nc.toNat) := h5
  have P5a : Hid (PatAt w5 p ta na.toNat) := P2b.out.upd u5
  have P5b : Hid (PatAt w5 q tb nb.toNat) := P3.out.upd u5
  have na9 : na.toNat ≤ 9 := P5a.out.1
  have nb9 : nb.toNat ≤ 9 := P5b.out.1
  have nc9 : nc.toNat ≤ 9 := P5.out.1
  clear u5 h5 P2 P2b P3
  generalize na.toNat = N at *
  generalize nb.toNat = M at *
  generalize nc.toNat = L at *
  go_wp2_with fail
  have P5p := P5a
  have P5q := P5b
  have P5r := P5
  refine (of_no p ta N S _ hz P5p.out HS.out.1).mono ?_
  rintro e w6 ⟨rfl, u6⟩
  have U6 : Hid (Upd [] w w6) := U5.out.trans u6
  have P6p : Hid (PatAt w6 p ta N) := P5p.out.upd u6
  have P6q : Hid (PatAt w6 q tb M) := P5q.out.upd u6
  have P6r : Hid (PatAt w6 r tc L) := P5r.out.upd u6
  clear u6
  go_wp2_with fail
  refine (of_yes q tb M S _ hz P6q.out HS.out.2.1).mono ?_
  rintro e w7 ⟨g7, hg7, rfl, s7, u7⟩
  have U7 : Hid (Upd [] w w7) := U6.out.trans u7
  have G7_7 : Hid (SpansAt w7 g7 (M + 1) fb) := s7
  have P7p : Hid (PatAt w7 p ta N) := P6p.out.upd u7
  have P7q : Hid (PatAt w7 q tb M) := P6q.out.upd u7
  have P7r : Hid (PatAt w7 r tc L) := P6r.out.upd u7
  clear u7 s7
  unfold spansV
  go_wp2_with fail
  refine (of_yes r tc L S _ hz P7r.out HS.out.2.2.1).mono ?_
  rintro e w8 ⟨g8, hg8, rfl, s8, u8⟩
  have U8 : Hid (Upd [] w w8) := U7.out.trans u8
  have G8_8 : Hid (SpansAt w8 g8 (L + 1) fc) := s8
  have P8p : Hid (PatAt w8 p ta N) := P7p.out.upd u8
  have P8q : Hid (PatAt w8 q tb M) := P7q.out.upd u8
  have P8r : Hid (PatAt w8 r tc L) := P7r.out.upd u8
  have G7_8 : Hid (SpansAt w8 g7 (M + 1) fb) := (u8.block g7 (lt_of_heap G7_7.out) (by simp)).trans G7_7.out
  clear u8 s8
  unfold spansV
  go_wp2_with fail
  refine (groups_any p ta N _ P8p.out).mono ?_
  rintro e w9 ⟨rfl, hw9⟩
  rw [hw9]
  clear hw9 w9
  go_wp2_with fail
  refine (groups_any q tb M _ P8q.out).mono ?_
  rintro e w9 ⟨rfl, hw9⟩
  rw [hw9]
  clear hw9 w9
  go_wp2_with fail
  refine (nowhere_any N _ (by omega)).mono ?_
  rintro e w10 ⟨v10, rfl, o10, u10⟩
  have O10 : Hid (SpO w10 w8.heap.size v10 N Sp.nowh) := o10
  have U10 : Hid (Upd [] w8 w10) := u10
  have G7_9 : Hid (SpansAt w10 g7 (M + 1) fb) := (u10.block g7 (lt_of_heap G7_8.out) (by simp)).trans G7_8.out
  clear o10 u10
  go_wp2_with fail
  refine (moved_any (.slice (some ⟨g7, 0, none⟩) (M + 1) (M + 1)) (M + 1) 0 fb _ (SpansAt.own G7_9.out (by omega)) (by omega) (by omega) (fun k _ => wholeS_bd (by omega) HS.out.2.1 k)).mono ?_
  rintro e w11 ⟨v11, rfl, o11, u11⟩
  have O11 : Hid (SpO w11 w10.heap.size v11 M (fun k => Sp.mv ((0 : Nat) : Int) (fb (k + 1)))) := o11
  have O10b : Hid (SpO w11 w8.heap.size v10 N Sp.nowh) := O10.out.upd u11 (by simp)
  have U11 : Hid (Upd [] w8 w11) := U10.out.trans u11
  clear o11 u11
  go_wp2_with fail
  refine (whole_any S v10 v11 N M _ _ _ (by omega) O10b.out.l O11.out.l (by omega) (by omega)).mono ?_
  rintro e w12 ⟨v12, rfl, o12, u12⟩
  have O12 : Hid (SpO w12 w11.heap.size v12 (1 + N + M) (wholeF S.size N Sp.nowh (fun k => Sp.mv ((0 : Nat) : Int) (fb (k + 1))))) := o12
  have U12 : Hid (Upd [] w w12) := U8.out.trans (U11.out.trans u12)
  have G8_9 : Hid (SpansAt w12 g8 (L + 1) fc) := ((U11.out.trans u12).block g8 (lt_of_heap G8_8.out) (by simp)).trans G8_8.out
  have HSB : Hid (sameB (L + 1) fc (1 + N + M) (wholeF S.size N Sp.nowh (fun k => Sp.mv ((0 : Nat) : Int) (fb (k + 1)))) = true) := (sameB_iff _ _ _ _).mpr ⟨by have := HNC.out; omega, fun k hk => HS.out.2.2.2 k (by have := HNC.out; omega)⟩
  clear o12 u12
  go_wp2_with fail
  refine (same_any (.slice (some ⟨g8, 0, none⟩) (L + 1) (L + 1)) v12 (L + 1) (1 + N + M) _ _ _ (SpansAt.own G8_9.out (by omega)) O12.out.l (by omega) (by omega)).mono ?_
  rw [HSB.out]
  rintro e w13 ⟨rfl, q13, rfl⟩
  go_wp2_with fail
  go_ret
  exact ⟨rfl, U12.out.trans (by (repeat (first | exact Upd.refl _ _ | refine Upd.drewN ?_ | refine Upd.drew ?_ | refine Upd.setCell ?_ (by simp) _ | refine Upd.alloc ?_ _)))⟩

theorem chosen_any (a b s : ByteArray) (w : World) : Calls Try.prog 3 #[.string a, .string b, .string s] w fun e w' => e = .returned (.bool true) ∧ Upd [] w w' := by
  cases hr2 : Sp.read a with
  | error f =>
    obtain ⟨ea, aa⟩ := f
    cases hr3 : Sp.read b with
    | error f => obtain ⟨eb, ab⟩ := f; exact chosen_ee a b s ea aa eb ab w hr2 hr3
    | ok v => obtain ⟨tb, nb⟩ := v; exact chosen_eo a b s ea aa tb nb w hr2 hr3
  | ok v =>
    obtain ⟨ta, na⟩ := v
    cases hr3 : Sp.read b with
    | error f => obtain ⟨eb, ab⟩ := f; exact chosen_oe a b s ta na eb ab w hr2 hr3
    | ok v =>
      obtain ⟨tb, nb⟩ := v
      obtain ⟨A, rfl⟩ : ∃ A, a = str A := ⟨_, (Sp.str_of a).symm⟩
      obtain ⟨B, rfl⟩ : ∃ B, b = str B := ⟨_, (Sp.str_of b).symm⟩
      have ra := ReadT.of hr2
      have rb := ReadT.of hr3
      have na0 := (Sp.read_num hr2).1
      have nb0 := (Sp.read_num hr3).1
      rcases Sp.chosen_read hr2 hr3 with ⟨e1, a1, h1, h2⟩ | h1
      · exact chosen_lim A B s ta tb na nb e1 a1 w hr2 hr3 h1 h2
      · rw [Sp.renT_zero] at h1
        have hnc : (na + nb).toNat = na.toNat + nb.toNat := by omega
        cases ha : wholeS ta (cutS s 100) with
        | some fa =>
          obtain ⟨fc, h3, h4⟩ := chosen_1 ra rb ha
          cases hb : wholeS tb (cutS s 100) with
          | some fb => exact chosen_ab A B s ta tb na nb _ _ fa fb fc w hr2 hr3 h1 hnc ha hb h3 h4
          | none => exact chosen_a A B s ta tb na nb _ _ fa fc w hr2 hr3 h1 hnc ha hb h3 h4
        | none =>
          cases hb : wholeS tb (cutS s 100) with
          | some fb =>
            obtain ⟨fc, h3, h4⟩ := chosen_2 ra rb ha hb
            exact chosen_b A B s ta tb na nb _ _ fb fc w hr2 hr3 h1 hnc ha hb h3 h4
          | none => exact chosen_n A B s ta tb na nb _ _ w hr2 hr3 h1 hnc ha hb (chosen_0 rb _ ha hb)
end Go.Proofs.Ytcpfpnjkfahjcaa
