import Derived.Test.YtcpfpnjkfahjcaaH34
import Derived.Test.YtcpfpnjkfahjcaaH33
set_option linter.unusedSimpArgs false
set_option linter.unusedVariables false
namespace Go.Proofs.Ytcpfpnjkfahjcaa
open Go.RowKit

/-- Kept from simp. -/
def catL (a b : List UInt8) : List UInt8 := a ++ b
theorem catL_len (a b : List UInt8) : (catL a b).length = a.length + b.length := by simp [catL]
theorem strL_append (a b : List UInt8) : str a ++ str b = str (a ++ b) := by
  apply ByteArray.ext; simp [str]
theorem addL (a b : List UInt8) (ha : a.length ≤ 8000000) (hb : b.length ≤ 8000000) (w : World) : (Op.stringOp .add (str a) (str b)).run Try.prog w = .ok (.string (str (catL a b))) w := by
  rw [run_string_add (P := Try.prog) (w := w) (str a) (str b) (by rw [Sp.str_size]; omega) (by rw [Sp.str_size]; omega), strL_append]; rfl

/-- A tree that was read: its groups. -/
structure ReadT (t : Tr) (n : Nat) : Prop where
  can : Sp.Can [t]
  num : Sp.NumIn 0 n [t]
theorem ReadT.of {s : ByteArray} {t : Tr} {n : Int} (h : Sp.read s = .ok (t, n)) : ReadT t n.toNat := by
  have hn := Sp.read_num h
  refine ⟨Sp.read_can h, ?_⟩
  have : ((n.toNat : Nat) : Int) = n := by omega
  rw [this]; exact hn.2
theorem ReadT.gr {t : Tr} {n : Nat} (h : ReadT t n) (s : ByteArray) (i j : Nat) : ∀ x ∈ (Sp.sem s t).g i j, 0 < x.1 ∧ x.1 ≤ n := fun x hx => by
  have := Sp.sem_num s h.num h.can i j x hx
  have h1 := this.1
  have h2 := this.2
  omega
theorem ReadT.zero {t : Tr} {n : Nat} (h : ReadT t n) (s : ByteArray) (k z : Nat) : Sp.spansOf ((Sp.sem s t).g 0 k) z 0 = (0, (z : Int)) :=
  Sp.spansOf_zero _ _ (fun x hx => by have := h.gr s 0 k x hx; omega)
theorem mv_zero (x : Int × Int) : Sp.mv ((0 : Nat) : Int) x = x := by
  unfold Sp.mv; split
  · simp
  · rfl
theorem wholeS_some {t : Tr} {s : ByteArray} {f : Nat → Int × Int} (h : wholeS t s = some f) : (Sp.sem s t).m 0 s.size = true ∧ f = Sp.spansOf ((Sp.sem s t).g 0 s.size) s.size := by
  unfold wholeS at h
  split at h
  · rename_i q; cases h; exact ⟨q, rfl⟩
  · cases h
theorem wholeS_none {t : Tr} {s : ByteArray} (h : wholeS t s = none) : (Sp.sem s t).m 0 s.size = false := by
  unfold wholeS at h
  split at h
  · cases h
  · rename_i q; simpa using q
theorem wholeS_is {t : Tr} {s : ByteArray} (h : (Sp.sem s t).m 0 s.size = true) : wholeS t s = some (Sp.spansOf ((Sp.sem s t).g 0 s.size) s.size) := by
  unfold wholeS; rw [if_pos h]
theorem wholeS_not {t : Tr} {s : ByteArray} (h : (Sp.sem s t).m 0 s.size = false) : wholeS t s = none := by
  unfold wholeS; rw [h]; rfl
/-- What was told is within bounds. -/
theorem wholeS_bd {t : Tr} {s : ByteArray} (hs : s.size ≤ 1000) {f : Nat → Int × Int} (h : wholeS t s = some f) : ∀ k, -1 ≤ (f k).1 ∧ (f k).1 ≤ 1000 ∧ -1 ≤ (f k).2 ∧ (f k).2 ≤ 1000 := by
  obtain ⟨hm, rfl⟩ := wholeS_some h
  intro k
  rcases spans_in t s s.size k hm with q | q
  · rw [q]; simp
  · omega

theorem chosen_0 {ta tb : Tr} {S : ByteArray} {n : Nat} (hb : ReadT tb n) (na : Nat) (h1 : wholeS ta S = none) (h2 : wholeS tb S = none) : wholeS (Sp.chosenT ta (Sp.renT na tb)) S = none := by
  refine wholeS_not ?_
  rw [Sp.chosen_m, (Sp.sem_r S hb.can).m, wholeS_none h1, wholeS_none h2]; rfl
theorem chosen_1 {ta tb : Tr} {S : ByteArray} {na nb : Nat} (ha : ReadT ta na) (hb : ReadT tb nb) {fa : Nat → Int × Int} (h1 : wholeS ta S = some fa) :
    ∃ f, wholeS (Sp.chosenT ta (Sp.renT na tb)) S = some f ∧ ∀ k, k < 1 + na + nb → f k = wholeF S.size na (fun k => Sp.mv ((0 : Nat) : Int) (fa (k + 1))) Sp.nowh k := by
  obtain ⟨hm, rfl⟩ := wholeS_some h1
  refine ⟨_, wholeS_is (by rw [Sp.chosen_m, hm]; rfl), fun k hk => ?_⟩
  rw [Sp.chosen_g1 _ _ _ _ _ hm]
  unfold wholeF
  by_cases h0 : k = 0
  · subst h0; rw [if_pos rfl, ha.zero]
  · rw [if_neg h0]
    by_cases h2 : k < 1 + na
    · rw [if_pos h2]
      simp only
      rw [mv_zero, show k - 1 + 1 = k by omega]
    · rw [if_neg h2, Sp.spansOf_pos _ _ _ h0]
      exact Sp.puts_none _ _ (fun x hx => by have := ha.gr S 0 S.size x hx; omega)
theorem chosen_2 {ta tb : Tr} {S : ByteArray} {na nb : Nat} (ha : ReadT ta na) (hb : ReadT tb nb) {fb : Nat → Int × Int} (h1 : wholeS ta S = none) (h2 : wholeS tb S = some fb) :
    ∃ f, wholeS (Sp.chosenT ta (Sp.renT na tb)) S = some f ∧ ∀ k, k < 1 + na + nb → f k = wholeF S.size na Sp.nowh (fun k => Sp.mv ((0 : Nat) : Int) (fb (k + 1))) k := by
  obtain ⟨hm, rfl⟩ := wholeS_some h2
  have hr := Sp.sem_r (n := na) S hb.can
  have hm' : (Sp.sem S (Sp.renT na tb)).m 0 S.size = true := by rw [hr.m]; exact hm
  refine ⟨_, wholeS_is (by rw [Sp.chosen_m, hm']; simp), fun k hk => ?_⟩
  rw [Sp.chosen_g2 _ _ _ _ _ (wholeS_none h1) hm', hr.g]
  unfold wholeF
  have hx : ∀ x ∈ ((Sp.sem S tb).g 0 S.size).map (Sp.rn na), na < x.1 := fun x hx => by
    obtain ⟨y, h3, rfl⟩ := List.mem_map.mp hx
    have := hb.gr S 0 S.size y h3
    show na < y.1 + na
    omega
  by_cases h0 : k = 0
  · subst h0; rw [if_pos rfl]
    exact Sp.spansOf_zero _ _ (fun x hx' => by have := hx x hx'; omega)
  · rw [if_neg h0, Sp.spansOf_pos _ _ _ h0]
    by_cases h2 : k < 1 + na
    · rw [if_pos h2]
      exact Sp.puts_none _ _ (fun x hx' => by have := hx x hx'; omega)
    · rw [if_neg h2]
      obtain ⟨j, rfl⟩ : ∃ j, k = j + na := ⟨k - na, by omega⟩
      simp only
      rw [Sp.puts_rn, mv_zero, show j + na - 1 - na + 1 = j by omega, Sp.spansOf_pos _ _ _ (by omega)]
end Go.Proofs.Ytcpfpnjkfahjcaa

set_option linter.unusedSimpArgs false
set_option linter.unusedVariables false
namespace Go.Proofs.Ytcpfpnjkfahjcaa
open Go.RowKit

/-- What a pattern says of an end of a text. -/
theorem wholeS_end (t : Tr) (s : ByteArray) (k : Nat) (hk : k ≤ s.size) : wholeS t (s.extract k s.size) = if (Sp.sem s t).m k s.size then some (Sp.spansOf ((Sp.sem (s.extract k s.size) t).g 0 (s.size - k)) (s.size - k)) else none := by
  have hz := extract_size s (a := k) (Nat.le_refl s.size)
  have e1 := Sp.part_m (Nat.le_refl s.size) hk t
  unfold wholeS
  rw [hz, e1]
/-- Where a row of two can be cut. -/
def cutK (ta tb : Tr) (S : ByteArray) : Option Nat := Sp.greatest (fun k => (Sp.sem S ta).m 0 k && (Sp.sem S tb).m k S.size) 0 S.size
theorem joined_m' {ta tb : Tr} {S : ByteArray} {na nb : Nat} (hb : ReadT tb nb) : (Sp.sem S (Sp.joinedT ta (Sp.renT na tb))).m 0 S.size = (cutK ta tb S).isSome := by
  rw [Sp.joined_m]
  unfold Sp.cutB cutK
  rw [show Sp.greatest (fun k => (Sp.sem S ta).m 0 k && (Sp.sem S (Sp.renT na tb)).m k S.size) 0 S.size = Sp.greatest (fun k => (Sp.sem S ta).m 0 k && (Sp.sem S tb).m k S.size) 0 S.size from Sp.greatest_congr fun k _ _ => by rw [(Sp.sem_r S hb.can).m]]
theorem joined_0 {ta tb : Tr} {S : ByteArray} {na nb : Nat} (hb : ReadT tb nb) (h : cutK ta tb S = none) : wholeS (Sp.joinedT ta (Sp.renT na tb)) S = none :=
  wholeS_not (by rw [joined_m' hb, h]; rfl)
/-- The groups of two pieces, one behind the other. -/
theorem two_pieces {la lb : List Sp.Gr} {na K z : Nat} (ha : ∀ x ∈ la, 0 < x.1 ∧ x.1 ≤ na) (hb : ∀ x ∈ lb, 0 < x.1) (k : Nat) :
    Sp.spansOf (la ++ (lb.map (Sp.sh K)).map (Sp.rn na)) z k = wholeF z na (fun j => Sp.puts Sp.nowh la (j + 1)) (fun j => Sp.mv K (Sp.puts Sp.nowh lb (j + 1))) k := by
  have hx : ∀ x ∈ (lb.map (Sp.sh K)).map (Sp.rn na), na < x.1 := fun x hx => by
    obtain ⟨y, h3, rfl⟩ := List.mem_map.mp hx
    obtain ⟨y', h4, rfl⟩ := List.mem_map.mp h3
    have := hb y' h4
    show na < y'.1 + na
    omega
  unfold wholeF
  by_cases h0 : k = 0
  · subst h0; rw [if_pos rfl]
    refine Sp.spansOf_zero _ _ (fun x hx' => ?_)
    rcases List.mem_append.mp hx' with q | q
    · have := ha x q; omega
    · have := hx x q; omega
  · rw [if_neg h0, Sp.spansOf_pos _ _ _ h0, Sp.puts_append]
    by_cases h2 : k < 1 + na
    · rw [if_pos h2, Sp.puts_miss k _ _ (fun x hx' => by have := hx x hx'; omega)]
      simp only
      rw [show k - 1 + 1 = k by omega]
    · rw [if_neg h2]
      obtain ⟨j, rfl⟩ : ∃ j, k = j + na := ⟨k - na, by omega⟩
      simp only
      rw [Sp.puts_over, Sp.puts_rn, Sp.puts_sh, show j + na - 1 - na + 1 = j by omega]
      rw [Sp.puts_none (j + na) la (fun x hx' => by have := ha x hx'; omega)]
      split
      · rfl
      · rename_i q
        rcases Sp.puts_is j (lb.map (Sp.sh K)) with r | ⟨y, _, _, r⟩
        · rw [Sp.puts_sh] at r; rw [r]
        · rw [Sp.puts_sh] at r; rw [r] at q; exact absurd (Int.natCast_nonneg _) q
theorem joined_1 {ta tb : Tr} {S : ByteArray} {na nb K : Nat} (ha : ReadT ta na) (hb : ReadT tb nb) (h : cutK ta tb S = some K) {fl fm : Nat → Int × Int} (hl : wholeS ta (S.extract 0 K) = some fl) (hm : wholeS tb (S.extract K S.size) = some fm) :
    ∃ f, wholeS (Sp.joinedT ta (Sp.renT na tb)) S = some f ∧ ∀ k, k < 1 + na + nb → f k = wholeF S.size na (fun j => Sp.mv ((0 : Nat) : Int) (fl (j + 1))) (fun j => Sp.mv K (fm (j + 1))) k := by
  have r := Sp.greatest_some h
  have hK : K ≤ S.size := r.2.1
  have q := r.2.2.1
  rw [Bool.and_eq_true] at q
  have hr := Sp.sem_r (n := na) S hb.can
  have hg : Sp.greatest (fun k => (Sp.sem S ta).m 0 k && (Sp.sem S (Sp.renT na tb)).m k S.size) 0 S.size = some K := by
    rw [← h]; exact Sp.greatest_congr fun k _ _ => by rw [hr.m]
  refine ⟨_, wholeS_is (by rw [joined_m' hb, h]; rfl), fun k hk => ?_⟩
  rw [Sp.joined_g _ _ _ _ _ K hg, hr.g, Sp.part_g (Nat.le_refl S.size) hK tb, two_pieces (fun x hx => ha.gr S 0 K x hx) (fun x hx => (hb.gr _ 0 _ x hx).1) k]
  have e1 : fl = Sp.spansOf ((Sp.sem S ta).g 0 K) K := by
    rw [wholeS_pre_yes ta S K hK q.1] at hl; exact (Option.some.inj hl).symm
  have e2 : fm = Sp.spansOf ((Sp.sem (S.extract K S.size) tb).g 0 (S.size - K)) (S.size - K) := by
    rw [wholeS_end tb S K hK, q.2] at hm; exact (Option.some.inj hm).symm
  unfold wholeF
  subst e1 e2
  simp only [mv_zero]
  congr 1
  by_cases h2 : k < 1 + na
  · rw [if_pos h2, if_pos h2, Sp.spansOf_pos _ _ _ (by omega)]
  · rw [if_neg h2, if_neg h2, Sp.spansOf_pos _ _ _ (by omega)]
end Go.Proofs.Ytcpfpnjkfahjcaa

set_option linter.unusedSimpArgs false
set_option linter.unusedVariables false
namespace Go.Proofs.Ytcpfpnjkfahjcaa
open Go.RowKit

theorem quiet_labc (m n : Int) (hm : m < 0 → m = -1 ∧ n = 0) (hn : -1 ≤ n ∧ n ≤ 20) (h20 : m ≤ 20) (hmm : 0 ≤ m → n = -1 ∨ m ≤ n) : Sp.CanL { Sp.blank with kind := 3, min := m, max := n } := by
  refine ⟨?_, ?_, ?_, ?_, ?_, ?_, ?_, ?_, ?_, hm, hn, h20, hmm⟩ <;> simp [Sp.blank]
theorem row_labc : Sp.CanL { Sp.blank with kind := 5 } := by
  refine ⟨?_, ?_, ?_, ?_, ?_, ?_, ?_, ?_, ?_, ?_, ?_, ?_, ?_⟩ <;> simp [Sp.blank]
theorem choice_labc : Sp.CanL { Sp.blank with kind := 4 } := by
  refine ⟨?_, ?_, ?_, ?_, ?_, ?_, ?_, ?_, ?_, ?_, ?_, ?_, ?_⟩ <;> simp [Sp.blank]
theorem turned_can {t : Tr} (h : Sp.Can [t]) : Sp.Can [Sp.turnedT t] := by
  unfold Sp.turnedT Sp.choiceT Sp.rowT Sp.quietG
  refine Sp.Can_one ⟨choice_labc, ?_, ?_, ?_⟩ (Sp.Can_one ⟨row_labc, ?_, ?_, ?_⟩ (Sp.Can_one ⟨quiet_labc 0 (-1) (by omega) (by omega) (by omega) (by omega), ?_, ?_, ?_⟩ h)) <;> simp [Sp.blank]
theorem turned_num {t : Tr} {n : Int} (h : Sp.NumIn 0 n [t]) : Sp.NumIn 0 n [Sp.turnedT t] :=
  Sp.NumIn_one (Or.inl rfl) (Sp.NumIn_one (Or.inl rfl) (Sp.NumIn_one (Or.inl rfl) h))
/-- The end of the first turn. -/
def turnK (ta : Tr) (S : ByteArray) : Option Nat := Sp.greatest (fun k => (Sp.sem S ta).m 0 k && (Sp.sem S (Sp.turnedT ta)).m k S.size) 1 S.size
theorem turned_e {ta : Tr} {S : ByteArray} {n : Nat} (hS : S.size = 0) (f : Nat → Int × Int) : ∃ g, wholeS (Sp.turnedT ta) S = some g ∧ ∀ k, k < 1 + n → g k = wholeF S.size n Sp.nowh f k := by
  have hm : (Sp.sem S (Sp.turnedT ta)).m 0 S.size = true := by rw [Sp.turned_m, hS]; rfl
  refine ⟨_, wholeS_is hm, fun k hk => ?_⟩
  have e := Sp.turned_g0 S ta 0
  rw [hS, e]
  unfold wholeF
  by_cases h0 : k = 0
  · subst h0; rw [if_pos rfl]; rfl
  · rw [if_neg h0, if_pos (by omega), Sp.spansOf_pos _ _ _ h0]; rfl
theorem turned_0 {ta : Tr} {S : ByteArray} (hS : 0 < S.size) (h : turnK ta S = none) : wholeS (Sp.turnedT ta) S = none := by
  refine wholeS_not ?_
  rw [Sp.turned_m]
  have e1 : ((0 : Nat) == S.size) = false := by simp; omega
  rw [e1]
  unfold Sp.cutB
  rw [show Sp.greatest (fun k => (Sp.sem S ta).m 0 k && (Sp.sem S (Sp.turnedT ta)).m k S.size) (0 + 1) S.size = none from h]
  rfl
/-- A group is at its last turn. -/
def lastF (fl fm : Nat → Int × Int) (K : Nat) : Nat → Int × Int := fun j => if 0 ≤ (Sp.mv K (fm (j + 1))).1 then Sp.mv K (fm (j + 1)) else Sp.mv ((0 : Nat) : Int) (fl (j + 1))
theorem turned_1 {ta : Tr} {S : ByteArray} {n K : Nat} (ha : ReadT ta n) (hS : 0 < S.size) (h : turnK ta S = some K) {fl fm : Nat → Int × Int} (hl : wholeS ta (S.extract 0 K) = some fl) (hm : wholeS (Sp.turnedT ta) (S.extract K S.size) = some fm) (f' : Nat → Int × Int) :
    ∃ f, wholeS (Sp.turnedT ta) S = some f ∧ ∀ k, k < 1 + n → f k = wholeF S.size n (lastF fl fm K) f' k := by
  have r := Sp.greatest_some h
  have hK : K ≤ S.size := r.2.1
  have q := r.2.2.1
  rw [Bool.and_eq_true] at q
  have hw : (Sp.sem S (Sp.turnedT ta)).m 0 S.size = true := by
    rw [Sp.turned_m, Sp.cutB_iff.mpr ⟨K, r.1, r.2.1, q.1, q.2⟩]; simp
  refine ⟨_, wholeS_is hw, fun k hk => ?_⟩
  rw [Sp.turned_g S ta 0 S.size K hS h, Sp.part_g (Nat.le_refl S.size) hK (Sp.turnedT ta)]
  have e1 : fl = Sp.spansOf ((Sp.sem S ta).g 0 K) K := by
    rw [wholeS_pre_yes ta S K hK q.1] at hl; exact (Option.some.inj hl).symm
  have e2 : fm = Sp.spansOf ((Sp.sem (S.extract K S.size) (Sp.turnedT ta)).g 0 (S.size - K)) (S.size - K) := by
    rw [wholeS_end (Sp.turnedT ta) S K hK, q.2] at hm; exact (Option.some.inj hm).symm
  have hz : (S.extract K S.size).size = S.size - K := extract_size S (Nat.le_refl _)
  -- the groups of the rest have numbers too
  have hg2 : ∀ x ∈ (Sp.sem (S.extract K S.size) (Sp.turnedT ta)).g 0 (S.size - K), x.1 ≠ 0 := fun x hx => by
    have hc : Sp.Can [Sp.turnedT ta] := turned_can ha.can
    have hn : Sp.NumIn 0 n [Sp.turnedT ta] := turned_num ha.num
    have := Sp.sem_num (S.extract K S.size) hn hc 0 (S.size - K) x hx
    have := this.1; omega
  unfold wholeF
  by_cases h0 : k = 0
  · subst h0; rw [if_pos rfl]
    refine Sp.spansOf_zero _ _ (fun x hx => ?_)
    rcases List.mem_append.mp hx with h3 | h3
    · have := ha.gr S 0 K x h3; omega
    · obtain ⟨y, h4, rfl⟩ := List.mem_map.mp h3
      exact hg2 y h4
  · rw [if_neg h0, if_pos (by omega), Sp.spansOf_pos _ _ _ h0, Sp.puts_append, Sp.puts_over, Sp.puts_sh]
    unfold lastF
    rw [show k - 1 + 1 = k by omega, mv_zero]
    subst e1 e2
    rw [Sp.spansOf_pos _ _ _ h0, Sp.spansOf_pos _ _ _ h0]
end Go.Proofs.Ytcpfpnjkfahjcaa
