import Derived.Test.YtcpfpnjkfahjcaaH34
import Derived.Test.YtcpfpnjkfahjcaaH33
set_option linter.unusedSimpArgs false
set_option linter.unusedVariables false
namespace Go.Proofs.Ytcpfpnjkfahjcaa
open Go.RowKit

/-- Kept from simp. -/
def catL (a b : List UInt8) : List UInt8 := a ++ b
theorem catL_len (a b : List UInt8) : (catL a b).length = a.length + b.length := by simp [catL]
theorem strL_append (a b : List UInt8) : str a ++ str b = str (a ++ b) := by
  apply ByteArray.ext; simp [str]
theorem addL (a b : List UInt8) (ha : a.length ≤ 8000000) (hb : b.length ≤ 8000000) (w : World) : (Op.stringOp .add (str a) (str b)).run Try.prog w = .ok (.string (str (catL a b))) w := by
  rw [run_string_add (P := Try.prog) (w := w) (str a) (str b) (by rw [Sp.str_size]; omega) (by rw [Sp.str_size]; omega), strL_append]; rfl

/-- A tree that was read: its groups. -/
structure ReadT (t : Tr) (n : Nat) : Prop where
  can : Sp.Can [t]
  num : Sp.NumIn 0 n [t]
theorem ReadT.of {s : ByteArray} {t : Tr} {n : Int} (h : Sp.read s = .ok (t, n)) : ReadT t n.toNat := by
  have hn := Sp.read_num h
  refine ⟨Sp.read_can h, ?_⟩
  have : ((n.toNat : Nat) : Int) = n := by omega
  rw [this]; exact hn.2
theorem ReadT.gr {t : Tr} {n : Nat} (h : ReadT t n) (s : ByteArray) (i j : Nat) : ∀ x ∈ (Sp.sem s t).g i j, 0 < x.1 ∧ x.1 ≤ n := fun x hx => by
  have := Sp.sem_num s h.num h.can i j x hx
  have h1 := this.1
  have h2 := this.2
  omega
theorem ReadT.zero {t : Tr} {n : Nat} (h : ReadT t n) (s : ByteArray) (k z : Nat) : Sp.spansOf ((Sp.sem s t).g 0 k) z 0 = (0, (z : Int)) :=
  Sp.spansOf_zero _ _ (fun x hx => by have := h.gr s 0 k x hx; omega)
theorem mv_zero (x : Int × Int) : Sp.mv ((0 : Nat) : Int) x = x := by
  unfold Sp.mv; split
  · simp
  · rfl
theorem wholeS_some {t : Tr} {s : ByteArray} {f : Nat → Int × Int} (h : wholeS t s = some f) : (Sp.sem s t).m 0 s.size = true ∧ f = Sp.spansOf ((Sp.sem s t).g 0 s.size) s.size := by
  unfold wholeS at h
  split at h
  · rename_i q; cases h; exact ⟨q, rfl⟩
  · cases h
theorem wholeS_none {t : Tr} {s : ByteArray} (h : wholeS t s = none) : (Sp.sem s t).m 0 s.size = false := by
  unfold wholeS at h
  split at h
  · cases h
  · rename_i q; simpa using q
theorem wholeS_is {t : Tr} {s : ByteArray} (h : (Sp.sem s t).m 0 s.size = true) : wholeS t s = some (Sp.spansOf ((Sp.sem s t).g 0 s.size) s.size) := by
  unfold wholeS; rw [if_pos h]
theorem wholeS_not {t : Tr} {s : ByteArray} (h : (Sp.sem s t).m 0 s.size = false) : wholeS t s = none := by
  unfold wholeS; rw [h]; rfl
/-- What was told is within bounds. -/
theorem wholeS_bd {t : Tr} {s : ByteArray} (hs : s.size ≤ 1000) {f : Nat → Int × Int} (h : wholeS t s = some f) : ∀ k, -1 ≤ (f k).1 ∧ (f k).1 ≤ 1000 ∧ -1 ≤ (f k).2 ∧ (f k).2 ≤ 1000 := by
  obtain ⟨hm, rfl⟩ := wholeS_some h
  intro k
  rcases spans_in t s s.size k hm with q | q
  · rw [q]; simp
  · omega

theorem chosen_0 {ta tb : Tr} {S : ByteArray} {n : Nat} (hb : ReadT tb n) (na : Nat) (h1 : wholeS ta S = none) (h2 : wholeS tb S = none) : wholeS (Sp.chosenT ta (Sp.renT na tb)) S = none := by
  refine wholeS_not ?_
  rw [Sp.chosen_m, (Sp.sem_r S hb.can).m, wholeS_none h1, wholeS_none h2]; rfl
theorem chosen_1 {ta tb : Tr} {S : ByteArray} {na nb : Nat} (ha : ReadT ta na) (hb : ReadT tb nb) {fa : Nat → Int × Int} (h1 : wholeS ta S = some fa) :
    ∃ f, wholeS (Sp.chosenT ta (Sp.renT na tb)) S = some f ∧ ∀ k, k < 1 + na + nb → f k = wholeF S.size na (fun k => Sp.mv ((0 : Nat) : Int) (fa (k + 1))) Sp.nowh k := by
  obtain ⟨hm, rfl⟩ := wholeS_some h1
  refine ⟨_, wholeS_is (by rw [Sp.chosen_m, hm]; rfl), fun k hk => ?_⟩
  rw [Sp.chosen_g1 _ _ _ _ _ hm]
  unfold wholeF
  by_cases h0 : k = 0
  · subst h0; rw [if_pos rfl, ha.zero]
  · rw [if_neg h0]
    by_cases h2 : k < 1 + na
    · rw [if_pos h2]
      simp only
      rw [mv_zero, show k - 1 + 1 = k by omega]
    · rw [if_neg h2, Sp.spansOf_pos _ _ _ h0]
      exact Sp.puts_none _ _ (fun x hx => by have := ha.gr S 0 S.size x hx; omega)
theorem chosen_2 {ta tb : Tr} {S : ByteArray} {na nb : Nat} (ha : ReadT ta na) (hb : ReadT tb nb) {fb : Nat → Int × Int} (h1 : wholeS ta S = none) (h2 : wholeS tb S = some fb) :
    ∃ f, wholeS (Sp.chosenT ta (Sp.renT na tb)) S = some f ∧ ∀ k, k < 1 + na + nb → f k = wholeF S.size na Sp.nowh (fun k => Sp.mv ((0 : Nat) : Int) (fb (k + 1))) k := by
  obtain ⟨hm, rfl⟩ := wholeS_some h2
  have hr := Sp.sem_r (n := na) S hb.can
  have hm' : (Sp.sem S (Sp.renT na tb)).m 0 S.size = true := by rw [hr.m]; exact hm
  refine ⟨_, wholeS_is (by rw [Sp.chosen_m, hm']; simp), fun k hk => ?_⟩
  rw [Sp.chosen_g2 _ _ _ _ _ (wholeS_none h1) hm', hr.g]
  unfold wholeF
  have hx : ∀ x ∈ ((Sp.sem S tb).g 0 S.size).map (Sp.rn na), na < x.1 := fun x hx => by
    obtain ⟨y, h3, rfl⟩ := List.mem_map.mp hx
    have := hb.gr S 0 S.size y h3
    show na < y.1 + na
    omega
  by_cases h0 : k = 0
  · subst h0; rw [if_pos rfl]
    exact Sp.spansOf_zero _ _ (fun x hx' => by have := hx x hx'; omega)
  · rw [if_neg h0, Sp.spansOf_pos _ _ _ h0]
    by_cases h2 : k < 1 + na
    · rw [if_pos h2]
      exact Sp.puts_none _ _ (fun x hx' => by have := hx x hx'; omega)
    · rw [if_neg h2]
      obtain ⟨j, rfl⟩ : ∃ j, k = j + na := ⟨k - na, by omega⟩
      simp only
      rw [Sp.puts_rn, mv_zero, show j + na - 1 - na + 1 = j by omega, Sp.spansOf_pos _ _ _ (by omega)]
end Go.Proofs.Ytcpfpnjkfahjcaa

set_option linter.unusedSimpArgs false
set_option linter.unusedVariables false
namespace Go.Proofs.Ytcpfpnjkfahjcaa
open Go.RowKit

/-- What a pattern says of an end of a text. -/
theorem wholeS_end (t : Tr) (s : ByteArray) (k : Nat) (hk : k ≤ s.size) : wholeS t (s.extract k s.size) = if (Sp.sem s t).m k s.size then some (Sp.spansOf ((Sp.sem (s.extract k s.size) t).g 0 (s.size - k)) (s.size - k)) else none := by
  have hz := extract_size s (a := k) (Nat.le_refl s.size)
  have e1 := Sp.part_m (Nat.le_refl s.size) hk t
  unfold wholeS
  rw [hz, e1]
/-- Where a row of two can be cut. -/
def cutK (ta tb : Tr) (S : ByteArray) : Option Nat := Sp.greatest (fun k => (Sp.sem S ta).m 0 k && (Sp.sem S tb).m k S.size) 0 S.size
theorem joined_m' {ta tb : Tr} {S : ByteArray} {na nb : Nat} (hb : ReadT tb nb) : (Sp.sem S (Sp.joinedT ta (Sp.renT na tb))).m 0 S.size = (cutK ta tb S).isSome := by
  rw [Sp.joined_m]
  unfold Sp.cutB cutK
  rw [show Sp.greatest (fun k => (Sp.sem S ta).m 0 k && (Sp.sem S (Sp.renT na tb)).m k S.size) 0 S.size = Sp.greatest (fun k => (Sp.sem S ta).m 0 k && (Sp.sem S tb).m k S.size) 0 S.size from Sp.greatest_congr fun k _ _ => by rw [(Sp.sem_r S hb.can).m]]
theorem joined_0 {ta tb : Tr} {S : ByteArray} {na nb : Nat} (hb : ReadT tb nb) (h : cutK ta tb S = none) : wholeS (Sp.joinedT ta (Sp.renT na tb)) S = none :=
  wholeS_not (by rw [joined_m' hb, h]; rfl)
/-- The groups of two pieces, one behind the other. -/
theorem two_pieces {la lb : List Sp.Gr} {na K z : Nat} (ha : ∀ x ∈ la, 0 < x.1 ∧ x.1 ≤ na) (hb : ∀ x ∈ lb, 0 < x.1) (k : Nat) :
    Sp.spansOf (la ++ (lb.map (Sp.sh K)).map (Sp.rn na)) z k = wholeF z na (fun j => Sp.puts Sp.nowh la (j + 1)) (fun j => Sp.mv K (Sp.puts Sp.nowh lb (j + 1))) k := by
  have hx : ∀ x ∈ (lb.map (Sp.sh K)).map (Sp.rn na), na < x.1 := fun x hx => by
    obtain ⟨y, h3, rfl⟩ := List.mem_map.mp hx
    obtain ⟨y', h4, rfl⟩ := List.mem_map.mp h3
    have := hb y' h4
    show na < y'.1 + na
    omega
  unfold wholeF
  by_cases h0 : k = 0
  · subst h0; rw [if_pos rfl]
    refine Sp.spansOf_zero _ _ (fun x hx' => ?_)
    rcases List.mem_append.mp hx' with q | q
    · have := ha x q; omega
    · have := hx x q; omega
  · rw [if_neg h0, Sp.spansOf_pos _ _ _ h0, Sp.puts_append]
    by_cases h2 : k < 1 + na
    · rw [if_pos h2, Sp.puts_miss k _ _ (fun x hx' => by have := hx x hx'; omega)]
      simp only
      rw [show k - 1 + 1 = k by omega]
    · rw [if_neg h2]
      obtain ⟨j, rfl⟩ : ∃ j, k = j + na := ⟨k - na, by omega⟩
      simp only
      rw [Sp.puts_over, Sp.puts_rn, Sp.puts_sh, show j + na - 1 - na + 1 = j by omega]
      rw [Sp.puts_none (j + na) la (fun x hx' => by have := ha x hx'; omega)]
      split
      · rfl
      · rename_i q
        rcases Sp.puts_is j (lb.map (Sp.sh K)) with r | ⟨y, _, _, r⟩
        · rw [Sp.puts_sh] at r; rw [r]
        · rw [Sp.puts_sh] at r; rw [r] at q; exact absurd (Int.natCast_nonneg _) q
theorem joined_1 {ta tb : Tr} {S : ByteArray} {na nb K : Nat} (ha : ReadT ta na) (hb : ReadT tb nb) (h : cutK ta tb S = some K) {fl fm : Nat → Int × Int} (hl : wholeS ta (S.extract 0 K) = some fl) (hm : wholeS tb (S.extract K S.size) = some fm) :
    ∃ f, wholeS (Sp.joinedT ta (Sp.renT na tb)) S = some f ∧ ∀ k, k < 1 + na + nb → f k = wholeF S.size na (fun j => Sp.mv ((0 : Nat) : Int) (fl (j + 1))) (fun j => Sp.mv K (fm (j + 1))) k := by
  have r := Sp.greatest_some h
  have hK : K ≤ S.size := r.2.1
  have q := r.2.2.1
  rw [Bool.and_eq_true] at q
  have hr := Sp.sem_r (n := na) S hb.can
  have hg : Sp.greatest (fun k => (Sp.sem S ta).m 0 k && (Sp.sem S (Sp.renT na tb)).m k S.size) 0 S.size = some K := by
    rw [← h]; exact Sp.greatest_congr fun k _ _ => by rw [hr.m]
  refine ⟨_, wholeS_is (by rw [joined_m' hb, h]; rfl), fun k hk => ?_⟩
  rw [Sp.joined_g _ _ _ _ _ K hg, hr.g, Sp.part_g (Nat.le_refl S.size) hK tb, two_pieces (fun x hx => ha.gr S 0 K x hx) (fun x hx => (hb.gr _ 0 _ x hx).1) k]
  have e1 : fl = Sp.spansOf ((Sp.sem S ta).g 0 K) K := by
    rw [wholeS_pre_yes ta S K hK q.1] at hl; exact (Option.some.inj hl).symm
  have e2 : fm = Sp.spansOf ((Sp.sem (S.extract K S.size) tb).g 0 (S.size - K)) (S.size - K) := by
    rw [wholeS_end tb S K hK, q.2] at hm; exact (Option.some.inj hm).symm
  unfold wholeF
  subst e1 e2
  simp only [mv_zero]
  congr 1
  by_cases h2 : k < 1 + na
  · rw [if_pos h2, if_pos h2, Sp.spansOf_pos _ _ _ (by omega)]
  · rw [if_neg h2, if_neg h2, Sp.spansOf_pos _ _ _ (by omega)]
end Go.Proofs.Ytcpfpnjkfahjcaa

set_option linter.unusedSimpArgs false
set_option linter.unusedVariables false
namespace Go.Proofs.Ytcpfpnjkfahjcaa
open Go.RowKit

set_option maxRecDepth 8000 in
set_option maxHeartbeats 1600000 in
theorem joined_ee (a b s : ByteArray) (ea aa : Int) (eb ab : Int) (w : World) (hr2 : Sp.read a = .error (ea, aa)) (hr3 : Sp.read b = .error (eb, ab)) : Calls Try.prog 4 #[.string a, .string b, .string s] w fun e w' => e = .returned (.bool true) ∧ Upd [] w w' := by
  have HR2 : Hid (Sp.read a = .error (ea, aa)) := hr2
  have hea : ea ≠ 0 := Sp.read_code hr2
  have hba : (ea != 0) = true := by simpa using hea
  have HR3 : Hid (Sp.read b = .error (eb, ab)) := hr3
  have heb : eb ≠ 0 := Sp.read_code hr3
  have hbb : (eb != 0) = true := by simpa using heb
  clear hr2 hr3
  go_enter Try.func4, Try.ntmps4
  go_wp2_with fail
  refine (begun_any _).mono ?_
  rintro e w1 ⟨rfl, u1⟩
  have U1 : Hid (Upd [] w w1) := u1
  clear u1
  go_wp2_with fail
  refine (comp_no a ea aa _ HR2.out).mono ?_
  rintro e w2 ⟨rfl, u2⟩
  have U2 : Hid (Upd [] w w2) := U1.out.trans u2
  clear u2
  go_wp2_with fail
  refine (comp_no b eb ab _ HR3.out).mono ?_
  rintro e w3 ⟨rfl, u3⟩
  have U3 : Hid (Upd [] w w3) := U2.out.trans u3
  clear u3
  go_wp2_with fail
  refine (short_any s 100 _ (by omega)).mono ?_
  rintro e w4 ⟨rfl, hw4⟩
  rw [hw4]
  clear hw4 w4
  go_wp2_with fail
  go_ret
  exact ⟨rfl, U3.out⟩

set_option maxRecDepth 8000 in
set_option maxHeartbeats 1600000 in
theorem joined_eo (a b s : ByteArray) (ea aa : Int) (tb : Tr) (nb : Int) (w : World) (hr2 : Sp.read a = .error (ea, aa)) (hr3 : Sp.read b = .ok (tb, nb)) : Calls Try.prog 4 #[.string a, .string b, .string s] w fun e w' => e = .returned (.bool true) ∧ Upd [] w w' := by
  have HR2 : Hid (Sp.read a = .error (ea, aa)) := hr2
  have hea : ea ≠ 0 := Sp.read_code hr2
  have hba : (ea != 0) = true := by simpa using hea
  have HR3 : Hid (Sp.read b = .ok (tb, nb)) := hr3
  clear hr2 hr3
  go_enter Try.func4, Try.ntmps4
  go_wp2_with fail
  refine (begun_any _).mono ?_
  rintro e w1 ⟨rfl, u1⟩
  have U1 : Hid (Upd [] w w1) := u1
  clear u1
  go_wp2_with fail
  refine (comp_no a ea aa _ HR2.out).mono ?_
  rintro e w2 ⟨rfl, u2⟩
  have U2 : Hid (Upd [] w w2) := U1.out.trans u2
  clear u2
  go_wp2_with fail
  refine (comp_yes b tb nb _ HR3.out).mono ?_
  rintro e w3 ⟨q, rfl, hq, h3, u3⟩
  have U3 : Hid (Upd [] w w3) := U2.out.trans u3
  have P3 : Hid (PatAt w3 q tb nb.toNat) := h3
  clear u3 h3
  go_wp2_with fail
  refine (short_any s 100 _ (by omega)).mono ?_
  rintro e w4 ⟨rfl, hw4⟩
  rw [hw4]
  clear hw4 w4
  go_wp2_with fail
  go_ret
  exact ⟨rfl, U3.out⟩

set_option maxRecDepth 8000 in
set_option maxHeartbeats 1600000 in
theorem joined_oe (a b s : ByteArray) (ta : Tr) (na : Int) (eb ab : Int) (w : World) (hr2 : Sp.read a = .ok (ta, na)) (hr3 : Sp.read b = .error (eb, ab)) : Calls Try.prog 4 #[.string a, .string b, .string s] w fun e w' => e = .returned (.bool true) ∧ Upd [] w w' := by
  have HR2 : Hid (Sp.read a = .ok (ta, na)) := hr2
  have HR3 : Hid (Sp.read b = .error (eb, ab)) := hr3
  have heb : eb ≠ 0 := Sp.read_code hr3
  have hbb : (eb != 0) = true := by simpa using heb
  clear hr2 hr3
  go_enter Try.func4, Try.ntmps4
  go_wp2_with fail
  refine (begun_any _).mono ?_
  rintro e w1 ⟨rfl, u1⟩
  have U1 : Hid (Upd [] w w1) := u1
  clear u1
  go_wp2_with fail
  refine (comp_yes a ta na _ HR2.out).mono ?_
  rintro e w2 ⟨p, rfl, hp, h2, u2⟩
  have U2 : Hid (Upd [] w w2) := U1.out.trans u2
  have P2 : Hid (PatAt w2 p ta na.toNat) := h2
  clear u2 h2
  go_wp2_with fail
  refine (comp_no b eb ab _ HR3.out).mono ?_
  rintro e w3 ⟨rfl, u3⟩
  have U3 : Hid (Upd [] w w3) := U2.out.trans u3
  clear u3
  go_wp2_with fail
  refine (short_any s 100 _ (by omega)).mono ?_
  rintro e w4 ⟨rfl, hw4⟩
  rw [hw4]
  clear hw4 w4
  go_wp2_with fail
  go_ret
  exact ⟨rfl, U3.out⟩

set_option maxRecDepth 8000 in
set_option maxHeartbeats 1600000 in
theorem joined_lim (A B : List UInt8) (s : ByteArray) (ta tb : Tr) (na nb : Int) (e1 a1 : Int) (w : World) (hr2 : Sp.read (str A) = .ok (ta, na)) (hr3 : Sp.read (str B) = .ok (tb, nb)) (hr4 : Sp.read (str (Sp.joinedS A B)) = .error (e1, a1)) (hl : e1 = 2 ∨ e1 = 5 ∨ e1 = 6 ∨ e1 = 7) : Calls Try.prog 4 #[.string (str A), .string (str B), .string s] w fun e w' => e = .returned (.bool true) ∧ Upd [] w w' := by
  have HR2 : Hid (Sp.read (str A) = .ok (ta, na)) := hr2
  have HR3 : Hid (Sp.read (str B) = .ok (tb, nb)) := hr3
  have hz : (cutS s 100).size ≤ 100 := by rw [cutS_size]; omega
  have hA : A.length ≤ 200 := by have := (Sp.read_choice hr2).1; rwa [Sp.str_size] at this
  have hB : B.length ≤ 200 := by have := (Sp.read_choice hr3).1; rwa [Sp.str_size] at this
  have k1 : ∀ w, (Op.stringOp .add ⟨#[40, 63, 58]⟩ (str A)).run Try.prog w = .ok (.string (str (catL [40, 63, 58] A))) w := addL [40, 63, 58] A (by simp) (by omega)
  have k2 : ∀ w, (Op.stringOp .add (str (catL [40, 63, 58] A)) ⟨#[41, 40, 63, 58]⟩).run Try.prog w = .ok (.string (str (catL (catL [40, 63, 58] A) [41, 40, 63, 58]))) w := addL _ [41, 40, 63, 58] (by rw [catL_len]; simp; omega) (by simp)
  have k3 : ∀ w, (Op.stringOp .add (str (catL (catL [40, 63, 58] A) [41, 40, 63, 58])) (str B)).run Try.prog w = .ok (.string (str (catL (catL (catL [40, 63, 58] A) [41, 40, 63, 58]) B))) w := addL _ B (by rw [catL_len, catL_len]; simp; omega) (by omega)
  have k4 : ∀ w, (Op.stringOp .add (str (catL (catL (catL [40, 63, 58] A) [41, 40, 63, 58]) B)) ⟨#[41]⟩).run Try.prog w = .ok (.string (str (catL (catL (catL (catL [40, 63, 58] A) [41, 40, 63, 58]) B) [41]))) w := addL _ [41] (by rw [catL_len, catL_len, catL_len]; simp; omega) (by simp)
  have HR4 : Hid (Sp.read (str (catL (catL (catL (catL [40, 63, 58] A) [41, 40, 63, 58]) B) [41])) = .error (e1, a1)) := hr4
  have HL : Hid (e1 = 2 ∨ e1 = 5 ∨ e1 = 6 ∨ e1 = 7) := hl
  clear hr2 hr3 hr4 hl
  go_enter Try.func4, Try.ntmps4
  go_wp2_with fail
  refine (begun_any _).mono ?_
  rintro e w1 ⟨rfl, u1⟩
  have U1 : Hid (Upd [] w w1) := u1
  clear u1
  go_wp2_with fail
  refine (comp_yes (str A) ta na _ HR2.out).mono ?_
  rintro e w2 ⟨p, rfl, hp, h2, u2⟩
  have U2 : Hid (Upd [] w w2) := U1.out.trans u2
  have P2 : Hid (PatAt w2 p ta na.toNat) := h2
  clear u2 h2
  go_wp2_with fail
  refine (comp_yes (str B) tb nb _ HR3.out).mono ?_
  rintro e w3 ⟨q, rfl, hq, h3, u3⟩
  have U3 : Hid (Upd [] w w3) := U2.out.trans u3
  have P3 : Hid (PatAt w3 q tb nb.toNat) := h3
  have P2b : Hid (PatAt w3 p ta na.toNat) := P2.out.upd u3
  clear u3 h3
  go_wp2_with fail
  refine (short_any s 100 _ (by omega)).mono ?_
  rintro e w4 ⟨rfl, hw4⟩
  rw [hw4]
  clear hw4 w4
  go_wp2_with fail
  refine (made_no _ e1 a1 _ HR4.out HL.out).mono ?_
  rintro e w5 ⟨rfl, u5⟩
  have U5 : Hid (Upd [] w w5) := U3.out.trans u5
  clear u5
  go_wp2_with fail
  go_ret
  exact ⟨rfl, U5.out⟩

/-- Behind some rounds of the loop of Joined. -/
structure JnInv (wb : World) (ta tb : Tr) (S : ByteArray) (N M : Nat) (gn : Nat) (vw vk : Value) (wr : World) : Prop where
  st : Upd [] wb wr ∧ ((∃ c : Nat, vw = .slice none 0 0 ∧ vk = .int .i64 ((c : Int) - 1) ∧ c ≤ gn ∧ c ≤ S.size + 1 ∧ ∀ m, c ≤ m → m ≤ S.size → ((Sp.sem S ta).m 0 m && (Sp.sem S tb).m m S.size) = false) ∨
    (∃ (K : Nat) (fl fm : Nat → Int × Int), vk = .int .i64 ((K : Int) - 1) ∧ cutK ta tb S = some K ∧ wholeS ta (S.extract 0 K) = some fl ∧ wholeS tb (S.extract K S.size) = some fm ∧ SpO wr wb.heap.size vw (1 + N + M) (wholeF S.size N (fun j => Sp.mv ((0 : Nat) : Int) (fl (j + 1))) (fun j => Sp.mv K (fm (j + 1))))))

set_option maxRecDepth 8000 in
set_option maxHeartbeats 1600000 in
theorem joined_ok (A B : List UInt8) (s : ByteArray) (ta tb : Tr) (na nb : Int) (tc : Tr) (nc : Int) (w : World) (hr2 : Sp.read (str A) = .ok (ta, na)) (hr3 : Sp.read (str B) = .ok (tb, nb)) (hr4 : Sp.read (str (Sp.joinedS A B)) = .ok (tc, nc)) (hnc : nc.toNat = na.toNat + nb.toNat) (h0 : cutK ta tb (cutS s 100) = none → wholeS tc (cutS s 100) = none) (h1 : ∀ K fl fm, cutK ta tb (cutS s 100) = some K → wholeS ta ((cutS s 100).extract 0 K) = some fl → wholeS tb ((cutS s 100).extract K (cutS s 100).size) = some fm → ∃ f, wholeS tc (cutS s 100) = some f ∧ ∀ k, k < 1 + na.toNat + nb.toNat → f k = wholeF (cutS s 100).size na.toNat (fun j => Sp.mv ((0 : Nat) : Int) (fl (j + 1))) (fun j => Sp.mv K (fm (j + 1))) k) : Calls Try.prog 4 #[.string (str A), .string (str B), .string s] w fun e w' => e = .returned (.bool true) ∧ Upd [] w w' := by
  have HR2 : Hid (Sp.read (str A) = .ok (ta, na)) := hr2
  have HR3 : Hid (Sp.read (str B) = .ok (tb, nb)) := hr3
  have hz : (cutS s 100).size ≤ 100 := by rw [cutS_size]; omega
  have hA : A.length ≤ 200 := by have := (Sp.read_choice hr2).1; rwa [Sp.str_size] at this
  have hB : B.length ≤ 200 := by have := (Sp.read_choice hr3).1; rwa [Sp.str_size] at this
  have k1 : ∀ w, (Op.stringOp .add ⟨#[40, 63, 58]⟩ (str A)).run Try.prog w = .ok (.string (str (catL [40, 63, 58] A))) w := addL [40, 63, 58] A (by simp) (by omega)
  have k2 : ∀ w, (Op.stringOp .add (str (catL [40, 63, 58] A)) ⟨#[41, 40, 63, 58]⟩).run Try.prog w = .ok (.string (str (catL (catL [40, 63, 58] A) [41, 40, 63, 58]))) w := addL _ [41, 40, 63, 58] (by rw [catL_len]; simp; omega) (by simp)
  have k3 : ∀ w, (Op.stringOp .add (str (catL (catL [40, 63, 58] A) [41, 40, 63, 58])) (str B)).run Try.prog w = .ok (.string (str (catL (catL (catL [40, 63, 58] A) [41, 40, 63, 58]) B))) w := addL _ B (by rw [catL_len, catL_len]; simp; omega) (by omega)
  have k4 : ∀ w, (Op.stringOp .add (str (catL (catL (catL [40, 63, 58] A) [41, 40, 63, 58]) B)) ⟨#[41]⟩).run Try.prog w = .ok (.string (str (catL (catL (catL (catL [40, 63, 58] A) [41, 40, 63, 58]) B) [41]))) w := addL _ [41] (by rw [catL_len, catL_len, catL_len]; simp; omega) (by simp)
  have HR4 : Hid (Sp.read (str (catL (catL (catL (catL [40, 63, 58] A) [41, 40, 63, 58]) B) [41])) = .ok (tc, nc)) := hr4
  have HNC : Hid (nc.toNat = na.toNat + nb.toNat) := hnc
  have HS : Hid ((cutK ta tb (cutS s 100) = none → wholeS tc (cutS s 100) = none) ∧ ∀ K fl fm, cutK ta tb (cutS s 100) = some K → wholeS ta ((cutS s 100).extract 0 K) = some fl → wholeS tb ((cutS s 100).extract K (cutS s 100).size) = some fm → ∃ f, wholeS tc (cutS s 100) = some f ∧ ∀ k, k < 1 + na.toNat + nb.toNat → f k = wholeF (cutS s 100).size na.toNat (fun j => Sp.mv ((0 : Nat) : Int) (fl (j + 1))) (fun j => Sp.mv K (fm (j + 1))) k) := ⟨h0, h1⟩
  clear hr2 hr3 hr4 hnc h0 h1
  go_enter Try.func4, Try.ntmps4
  go_wp2_with fail
  refine (begun_any _).mono ?_
  rintro e w1 ⟨rfl, u1⟩
  have U1 : Hid (Upd [] w w1) := u1
  clear u1
  go_wp2_with fail
  refine (comp_yes (str A) ta na _ HR2.out).mono ?_
  rintro e w2 ⟨p, rfl, hp, h2, u2⟩
  have U2 : Hid (Upd [] w w2) := U1.out.trans u2
  have P2 : Hid (PatAt w2 p ta na.toNat) := h2
  clear u2 h2
  go_wp2_with fail
  refine (comp_yes (str B) tb nb _ HR3.out).mono ?_
  rintro e w3 ⟨q, rfl, hq, h3, u3⟩
  have U3 : Hid (Upd [] w w3) := U2.out.trans u3
  have P3 : Hid (PatAt w3 q tb nb.toNat) := h3
  have P2b : Hid (PatAt w3 p ta na.toNat) := P2.out.upd u3
  clear u3 h3
  go_wp2_with fail
  refine (short_any s 100 _ (by omega)).mono ?_
  rintro e w4 ⟨rfl, hw4⟩
  rw [hw4]
  clear hw4 w4
  revert hz HS
  generalize cutS s 100 = S
  intro hz HS
  go_wp2_with fail
  refine (made_yes _ tc nc _ HR4.out).mono ?_
  rintro e w5 ⟨r, rfl, h5, u5⟩
  have U5 : Hid (Upd [] w w5) := U3.out.trans u5
  have P5 : Hid (PatAt w5 r tc nc.toNat) := h5
  have P5a : Hid (PatAt w5 p ta na.toNat) := P2b.out.upd u5
  have P5b : Hid (PatAt w5 q tb nb.toNat) := P3.out.upd u5
  have na9 : na.toNat ≤ 9 := P5a.out.1
  have nb9 : nb.toNat ≤ 9 := P5b.out.1
  have nc9 : nc.toNat ≤ 9 := P5.out.1
  clear u5 h5 P2 P2b P3
  generalize na.toNat = N at *
  generalize nb.toNat = M at *
  generalize nc.toNat = L at *
  have hz' : (S.size : Int) ≤ 100 := by omega
  go_wp2_with fail
  go_loopg [16, 17] (S.size + 2) (fun gn vw vk wr => JnInv w5 ta tb S N M gn vw vk wr)
  case atStart => exact ⟨Upd.refl _ _, Or.inl ⟨S.size + 1, rfl, int_eq (by omega), by omega, by omega, fun m h1 h2 => by omega⟩⟩
  case round =>
    obtain ⟨hu, hst⟩ := hrel.st
    have HU : Hid (Upd [] w5 wr) := hu
    clear hu
    rcases hst with ⟨c, e1, e2, hc1, hc2, hno⟩ | ⟨K, fl, fm, e2, hK, hl, hm, ho⟩
    · subst e1 e2
      have NO : Hid (∀ m, c ≤ m → m ≤ S.size → ((Sp.sem S ta).m 0 m && (Sp.sem S tb).m m S.size) = false) := hno
      clear hno
      by_cases h0 : c = 0
      · subst h0
        have HN : Hid (wholeS tc S = none) := HS.out.1 (greatest_no (fun m h1 h2 => NO.out m h1 h2))
        go_wp2_with fail
        refine (of_no r tc L S _ hz (P5.out.upd HU.out) HN.out).mono ?_
        rintro e w6 ⟨rfl, u6⟩
        have U6 : Hid (Upd [] w w6) := (U5.out.trans HU.out).trans u6
        clear u6
        go_wp2_with fail
        refine (same_any (.slice none 0 0) (.slice none 0 0) 0 0 Sp.nowh Sp.nowh _ (SpL.nil _ _) (SpL.nil _ _) (by omega) (by omega)).mono ?_
        rintro e w10 ⟨rfl, q10, rfl⟩
        have hsb : sameB 0 Sp.nowh 0 Sp.nowh = true := by simp [sameB]
        rw [hsb]
        go_wp2_with fail
        go_ret
        exact ⟨rfl, U6.out.trans (by (repeat (first | exact Upd.refl _ _ | refine Upd.drewN ?_ | refine Upd.drew ?_ | refine Upd.setCell ?_ (by simp) _ | refine Upd.alloc ?_ _)))⟩
      · obtain ⟨d, rfl⟩ : ∃ d, c = d + 1 := ⟨c - 1, by omega⟩
        have e1 : (((d + 1 : Nat) : Int) - 1) = (d : Int) := by omega
        rw [e1]
        clear e1 h0
        obtain ⟨gm, hgm⟩ : ∃ k, gk = k + 1 := ⟨gk - 1, by omega⟩
        have hd : d ≤ S.size := by omega
        have hd' : (d : Int) ≤ S.size := by omega
        have hzd : (S.extract 0 d).size ≤ 100 := by rw [extract_size S hd]; omega
        have hze : (S.extract d S.size).size ≤ 100 := by rw [extract_size S (Nat.le_refl _)]; omega
        cases hl : wholeS ta (S.extract 0 d) with
        | none =>
          have HL : Hid (wholeS ta (S.extract 0 d) = none) := hl
          have HM : Hid ((Sp.sem S ta).m 0 d = false) := by
            have := wholeS_pre ta S d hd
            rw [hl] at this
            split at this
            · cases this
            · rename_i q'; exact (by simpa using q' : (Sp.sem S ta).m 0 d = false)
          clear hl
          go_wp2_with fail
          refine (of_no p ta N (S.extract 0 d) _ hzd (P5a.out.upd HU.out) HL.out).mono ?_
          rintro e w6 ⟨rfl, u6⟩
          have U6 : Hid (Upd [] w5 w6) := HU.out.trans u6
          clear u6
          go_wp2_with fail
          go_roundg gm
          case measure => omega
          case rel => exact ⟨U6.out, Or.inl ⟨d, rfl, rfl, by omega, by omega, fun m h1 h2 => by
            rcases (by omega : m = d ∨ d + 1 ≤ m) with q' | q'
            · subst q'; rw [HM.out]; rfl
            · exact NO.out m q' h2⟩⟩
        | some fl =>
          have HL : Hid (wholeS ta (S.extract 0 d) = some fl) := hl
          have HMA : Hid ((Sp.sem S ta).m 0 d = true) := by
            have := wholeS_pre ta S d hd
            rw [hl] at this
            split at this
            · rename_i q'; exact q'
            · cases this
          clear hl
          go_wp2_with fail
          refine (of_yes p ta N (S.extract 0 d) _ hzd (P5a.out.upd HU.out) HL.out).mono ?_
          rintro e w6 ⟨g6, hg6, rfl, s6, u6⟩
          have U6 : Hid (Upd [] w5 w6) := HU.out.trans u6
          have G6 : Hid (SpansAt w6 g6 (N + 1) fl) := s6
          clear u6 s6
          unfold spansV
          cases hm : wholeS tb (S.extract d S.size) with
          | none =>
            have HMM : Hid (wholeS tb (S.extract d S.size) = none) := hm
            have HM : Hid ((Sp.sem S tb).m d S.size = false) := by
              have := wholeS_end tb S d hd
              rw [hm] at this
              split at this
              · cases this
              · rename_i q'; exact (by simpa using q' : (Sp.sem S tb).m d S.size = false)
            clear hm
            go_wp2_with fail
            refine (of_no q tb M (S.extract d S.size) _ hze (P5b.out.upd U6.out) HMM.out).mono ?_
            rintro e w7 ⟨rfl, u7⟩
            have U7 : Hid (Upd [] w5 w7) := U6.out.trans u7
            clear u7
            go_wp2_with fail
            go_roundg gm
            case measure => omega
            case rel => exact ⟨U7.out, Or.inl ⟨d, rfl, rfl, by omega, by omega, fun m h1 h2 => by
              rcases (by omega : m = d ∨ d + 1 ≤ m) with q' | q'
              · subst q'; rw [HM.out]; simp
              · exact NO.out m q' h2⟩⟩
          | some fm =>
            have HMM : Hid (wholeS tb (S.extract d S.size) = some fm) := hm
            have HM : Hid ((Sp.sem S tb).m d S.size = true) := by
              have := wholeS_end tb S d hd
              rw [hm] at this
              split at this
              · rename_i q'; exact q'
              · cases this
            clear hm
            have HK : Hid (cutK ta tb S = some d) := Sp.greatest_is (by omega) hd (by rw [HMA.out, HM.out]; rfl) (fun m h1 h2 => NO.out m (by omega) h2)
            go_wp2_with fail
            refine (of_yes q tb M (S.extract d S.size) _ hze (P5b.out.upd U6.out) HMM.out).mono ?_
            rintro e w7 ⟨g7, hg7, rfl, s7, u7⟩
            have U7 : Hid (Upd [] w5 w7) := U6.out.trans u7
            have G7 : Hid (SpansAt w7 g7 (M + 1) fm) := s7
            have G67 : Hid (SpansAt w7 g6 (N + 1) fl) := (u7.block g6 (lt_of_heap G6.out) (by simp)).trans G6.out
            clear u7 s7
            unfold spansV
            go_wp2_with fail
            refine (moved_any (.slice (some ⟨g6, 0, none⟩) (N + 1) (N + 1)) (N + 1) 0 fl _ (SpansAt.own G67.out (by omega)) (by omega) (by omega) (fun k _ => wholeS_bd (by omega) HL.out k)).mono ?_
            rintro e w10 ⟨v10, rfl, o10, u10⟩
            have O10 : Hid (SpO w10 w7.heap.size v10 N (fun k => Sp.mv ((0 : Nat) : Int) (fl (k + 1)))) := o10
            have U10 : Hid (Upd [] w7 w10) := u10
            have G7b : Hid (SpansAt w10 g7 (M + 1) fm) := (u10.block g7 (lt_of_heap G7.out) (by simp)).trans G7.out
            clear o10 u10
            go_wp2_with fail
            refine (moved_any (.slice (some ⟨g7, 0, none⟩) (M + 1) (M + 1)) (M + 1) d fm _ (SpansAt.own G7b.out (by omega)) (by omega) (by omega) (fun k _ => wholeS_bd (by omega) HMM.out k)).mono ?_
            rintro e w11 ⟨v11, rfl, o11, u11⟩
            have O11 : Hid (SpO w11 w10.heap.size v11 M (fun k => Sp.mv d (fm (k + 1)))) := o11
            have O10b : Hid (SpO w11 w7.heap.size v10 N (fun k => Sp.mv ((0 : Nat) : Int) (fl (k + 1)))) := O10.out.upd u11 (by simp)
            have U11 : Hid (Upd [] w7 w11) := U10.out.trans u11
            clear o11 u11
            go_wp2_with fail
            refine (whole_any S v10 v11 N M _ _ _ (by omega) O10b.out.l O11.out.l (by omega) (by omega)).mono ?_
            rintro e w12 ⟨v12, rfl, o12, u12⟩
            have U12 : Hid (Upd [] w5 w12) := U7.out.trans (U11.out.trans u12)
            have O12 : Hid (SpO w12 w5.heap.size v12 (1 + N + M) (wholeF S.size N (fun j => Sp.mv ((0 : Nat) : Int) (fl (j + 1))) (fun j => Sp.mv d (fm (j + 1))))) := SpO.mono o12 (by have := U7.out.size; have := U11.out.size; omega)
            clear o12 u12
            go_wp2_with fail
            go_roundg gm
            case measure => omega
            case rel => exact ⟨U12.out, Or.inr ⟨d, fl, fm, rfl, HK.out, HL.out, HMM.out, O12.out⟩⟩
    · subst e2
      obtain ⟨fc, h3, h4⟩ := HS.out.2 K fl fm hK hl hm
      have HN : Hid (wholeS tc S = some fc) := h3
      have HF : Hid (∀ k, k < 1 + N + M → fc k = wholeF S.size N (fun j => Sp.mv ((0 : Nat) : Int) (fl (j + 1))) (fun j => Sp.mv K (fm (j + 1))) k) := h4
      have HO : Hid (SpO wr w5.heap.size u16 (1 + N + M) (wholeF S.size N (fun j => Sp.mv ((0 : Nat) : Int) (fl (j + 1))) (fun j => Sp.mv K (fm (j + 1))))) := ho
      obtain ⟨x, y, hxy, hxy2⟩ := ho.slice
      have hne : ¬ ((1 : Int) + N + M = 0) := by omega
      have hne2 : ¬ (1 + N + M = 0) := by omega
      clear ho h3 h4 hK hl hm
      subst hxy
      have hk0 : (0 : Int) ≤ (K : Int) - 1 ∨ ¬ (0 : Int) ≤ (K : Int) - 1 := by omega
      rcases hk0 with hk0 | hk0
      all_goals
        go_wp2_with fail
        refine (of_yes r tc L S _ hz (P5.out.upd HU.out) HN.out).mono ?_
        rintro e w6 ⟨g6, hg6, rfl, s6, u6⟩
        have U6 : Hid (Upd [] w w6) := (U5.out.trans HU.out).trans u6
        have G6 : Hid (SpansAt w6 g6 (L + 1) fc) := s6
        have HO6 : Hid (SpO w6 w5.heap.size (.slice x (1 + N + M) y) (1 + N + M) (wholeF S.size N (fun j => Sp.mv ((0 : Nat) : Int) (fl (j + 1))) (fun j => Sp.mv K (fm (j + 1))))) := HO.out.upd u6 (by simp)
        have HSB : Hid (sameB (L + 1) fc (1 + N + M) (wholeF S.size N (fun j => Sp.mv ((0 : Nat) : Int) (fl (j + 1))) (fun j => Sp.mv K (fm (j + 1)))) = true) := (sameB_iff _ _ _ _).mpr ⟨by have := HNC.out; omega, fun k hk => HF.out k (by have := HNC.out; omega)⟩
        clear u6 s6
        unfold spansV
        go_wp2_with fail
        refine (same_any (.slice (some ⟨g6, 0, none⟩) (L + 1) (L + 1)) (.slice x (1 + N + M) y) (L + 1) (1 + N + M) _ _ _ (SpansAt.own G6.out (by omega)) HO6.out.l (by omega) (by omega)).mono ?_
        rw [HSB.out]
        rintro e w13 ⟨rfl, q13, rfl⟩
        go_wp2_with fail
        go_ret
        exact ⟨rfl, U6.out.trans (by (repeat (first | exact Upd.refl _ _ | refine Upd.drewN ?_ | refine Upd.drew ?_ | refine Upd.setCell ?_ (by simp) _ | refine Upd.alloc ?_ _)))⟩

theorem joined_any (a b s : ByteArray) (w : World) : Calls Try.prog 4 #[.string a, .string b, .string s] w fun e w' => e = .returned (.bool true) ∧ Upd [] w w' := by
  cases hr2 : Sp.read a with
  | error f =>
    obtain ⟨ea, aa⟩ := f
    cases hr3 : Sp.read b with
    | error f => obtain ⟨eb, ab⟩ := f; exact joined_ee a b s ea aa eb ab w hr2 hr3
    | ok v => obtain ⟨tb, nb⟩ := v; exact joined_eo a b s ea aa tb nb w hr2 hr3
  | ok v =>
    obtain ⟨ta, na⟩ := v
    cases hr3 : Sp.read b with
    | error f => obtain ⟨eb, ab⟩ := f; exact joined_oe a b s ta na eb ab w hr2 hr3
    | ok v =>
      obtain ⟨tb, nb⟩ := v
      obtain ⟨A, rfl⟩ : ∃ A, a = str A := ⟨_, (Sp.str_of a).symm⟩
      obtain ⟨B, rfl⟩ : ∃ B, b = str B := ⟨_, (Sp.str_of b).symm⟩
      have ra := ReadT.of hr2
      have rb := ReadT.of hr3
      have na0 := (Sp.read_num hr2).1
      have nb0 := (Sp.read_num hr3).1
      rcases Sp.joined_read hr2 hr3 with ⟨e1, a1, h1, h2⟩ | h1
      · exact joined_lim A B s ta tb na nb e1 a1 w hr2 hr3 h1 h2
      · rw [Sp.renT_zero] at h1
        exact joined_ok A B s ta tb na nb _ _ w hr2 hr3 h1 (by omega) (fun h => joined_0 rb h) (fun K fl fm h2 h3 h4 => joined_1 ra rb h2 h3 h4)
end Go.Proofs.Ytcpfpnjkfahjcaa
