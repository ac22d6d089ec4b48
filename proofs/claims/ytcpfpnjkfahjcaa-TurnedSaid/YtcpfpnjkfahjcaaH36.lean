import Derived.Test.YtcpfpnjkfahjcaaH35
set_option linter.unusedSimpArgs false
set_option linter.unusedVariables false
namespace Go.Proofs.Ytcpfpnjkfahjcaa
open Go.RowKit

theorem SpO.put {w : World} {b g n cap : Nat} {f : Nat → Int × Int} (h : SpO w b (.slice (some ⟨g, 0, none⟩) n cap) n f) (k : Nat) (hk : k < n) (x y : Int) :
    SpO ((w.setCell ⟨g, k * 2, none⟩ (.int .i64 x)).setCell ⟨g, k * 2 + 1, none⟩ (.int .i64 y)) b (.slice (some ⟨g, 0, none⟩) n cap) n (fun c => if c = k then (x, y) else f c) := by
  obtain ⟨h1, h2⟩ := h
  rcases h2 with ⟨q, _⟩ | ⟨g', cap', cur, q, hb, hg, hnc, hcm, hcs, ht⟩
  · cases q
  · cases q
    refine ⟨flat_length _ _, Or.inr ⟨g, cap, (cur.setIfInBounds (k * 2) (.int .i64 x)).setIfInBounds (k * 2 + 1) (.int .i64 y), rfl, hb, heap_set (heap_set hg _ _) _ _, hnc, hcm, by simp [hcs], ?_⟩⟩
    apply List.ext_getElem?
    intro i
    have key : ∀ i, i < n * 2 → cur[i]? = (flat n f)[i]? := fun i hi => by
      rw [← ht, List.getElem?_take_of_lt hi, Array.getElem?_toList]
    have hle : n * 2 ≤ cap * 2 := Nat.mul_le_mul_right 2 hnc
    by_cases hi : i < n * 2
    · rw [List.getElem?_take_of_lt hi, Array.getElem?_toList, Array.getElem?_setIfInBounds, Array.getElem?_setIfInBounds, key i hi, flat_get, flat_get]
      simp only [Array.size_setIfInBounds, hcs]
      rw [if_pos (show i < 2 * n by omega), if_pos (show i < 2 * n by omega)]
      by_cases e1 : k * 2 + 1 = i
      · subst e1
        rw [if_pos rfl, if_pos (by omega), if_neg (by omega), show (k * 2 + 1) / 2 = k by omega]; simp
      · rw [if_neg e1]
        by_cases e2 : k * 2 = i
        · subst e2
          rw [if_pos rfl, if_pos (by omega), if_pos (by omega), show k * 2 / 2 = k by omega]; simp
        · rw [if_neg e2]
          have e3 : i / 2 ≠ k := by omega
          simp only [e3, if_false]
    · rw [List.getElem?_eq_none (by simp; omega), List.getElem?_eq_none (by rw [flat_length]; omega)]
theorem SpO.cells0 {w : World} {b g n cap : Nat} {f : Nat → Int × Int} (h : SpO w b (.slice (some ⟨g, 0, none⟩) n cap) n f) (hn : 0 < n) : g < w.heap.size ∧ b ≤ g ∧ (∀ o, w.frozen? ⟨g, o, none⟩ = false) ∧ (∀ k, k < n → w.cell? ⟨g, k * 2, none⟩ = some (.int .i64 (f k).1)) ∧ (∀ k, k < n → w.cell? ⟨g, k * 2 + 1, none⟩ = some (.int .i64 (f k).2)) := by
  rcases SpL.form h.l with ⟨q, _⟩ | ⟨g', cap', q, h1, h2, h3⟩
  · cases q
  · cases q
    refine ⟨h1, (ownBlock_lt h rfl).2, fun o => ?_, h2, h3⟩
    rcases h.2 with ⟨q, _⟩ | ⟨g', cap', cur, q, _, hg, _⟩
    · cases q
    · cases q; simp [World.frozen?, hg]

set_option maxRecDepth 8000 in
set_option maxHeartbeats 1600000 in
theorem turned_err (a s : ByteArray) (ea aa : Int) (w : World) (hr2 : Sp.read a = .error (ea, aa)) : Calls Try.prog 5 #[.string a, .string s] w fun e w' => e = .returned (.bool true) ∧ Upd [] w w' := by
  have HR2 : Hid (Sp.read a = .error (ea, aa)) := hr2
  have hea : ea ≠ 0 := Sp.read_code hr2
  have hba : (ea != 0) = true := by simpa using hea
  clear hr2
  go_enter Try.func5, Try.ntmps5
  go_wp2_with fail
  refine (begun_any _).mono ?_
  rintro e w1 ⟨rfl, u1⟩
  have U1 : Hid (Upd [] w w1) := u1
  clear u1
  go_wp2_with fail
  refine (comp_no a ea aa _ HR2.out).mono ?_
  rintro e w2 ⟨rfl, u2⟩
  have U2 : Hid (Upd [] w w2) := U1.out.trans u2
  clear u2
  go_wp2_with fail
  refine (short_any s 40 _ (by omega)).mono ?_
  rintro e w4 ⟨rfl, hw4⟩
  rw [hw4]
  clear hw4 w4
  go_wp2_with fail
  go_ret
  exact ⟨rfl, U2.out⟩

set_option maxRecDepth 8000 in
set_option maxHeartbeats 1600000 in
theorem turned_lim (A : List UInt8) (s : ByteArray) (ta : Tr) (na : Int) (e1 a1 : Int) (w : World) (hr2 : Sp.read (str A) = .ok (ta, na)) (hr4 : Sp.read (str (Sp.turnedS A)) = .error (e1, a1)) (hl : e1 = 2 ∨ e1 = 5 ∨ e1 = 6 ∨ e1 = 7) : Calls Try.prog 5 #[.string (str A), .string s] w fun e w' => e = .returned (.bool true) ∧ Upd [] w w' := by
  have HR2 : Hid (Sp.read (str A) = .ok (ta, na)) := hr2
  have hz : (cutS s 40).size ≤ 40 := by rw [cutS_size]; omega
  have hA : A.length ≤ 200 := by have := (Sp.read_choice hr2).1; rwa [Sp.str_size] at this
  have k1 : ∀ w, (Op.stringOp .add ⟨#[40, 63, 58]⟩ (str A)).run Try.prog w = .ok (.string (str (catL [40, 63, 58] A))) w := addL [40, 63, 58] A (by simp) (by omega)
  have k2 : ∀ w, (Op.stringOp .add (str (catL [40, 63, 58] A)) ⟨#[41, 42]⟩).run Try.prog w = .ok (.string (str (catL (catL [40, 63, 58] A) [41, 42]))) w := addL _ [41, 42] (by rw [catL_len]; simp; omega) (by simp)
  have HR4 : Hid (Sp.read (str (catL (catL [40, 63, 58] A) [41, 42])) = .error (e1, a1)) := hr4
  have HL : Hid (e1 = 2 ∨ e1 = 5 ∨ e1 = 6 ∨ e1 = 7) := hl
  clear hr2 hr4 hl
  go_enter Try.func5, Try.ntmps5
  go_wp2_with fail
  refine (begun_any _).mono ?_
  rintro e w1 ⟨rfl, u1⟩
  have U1 : Hid (Upd [] w w1) := u1
  clear u1
  go_wp2_with fail
  refine (comp_yes (str A) ta na _ HR2.out).mono ?_
  rintro e w2 ⟨p, rfl, hp, h2, u2⟩
  have U2 : Hid (Upd [] w w2) := U1.out.trans u2
  have P2 : Hid (PatAt w2 p ta na.toNat) := h2
  clear u2 h2
  go_wp2_with fail
  refine (short_any s 40 _ (by omega)).mono ?_
  rintro e w4 ⟨rfl, hw4⟩
  rw [hw4]
  clear hw4 w4
  go_wp2_with fail
  refine (made_no _ e1 a1 _ HR4.out HL.out).mono ?_
  rintro e w5 ⟨rfl, u5⟩
  have U5 : Hid (Upd [] w w5) := U2.out.trans u5
  clear u5
  go_wp2_with fail
  go_ret
  exact ⟨rfl, U5.out⟩

set_option maxRecDepth 8000 in
set_option maxHeartbeats 1600000 in
theorem turned_empty (A : List UInt8) (s : ByteArray) (ta tc : Tr) (na : Int) (fc : Nat → Int × Int) (w : World) (hr2 : Sp.read (str A) = .ok (ta, na)) (hr4 : Sp.read (str (Sp.turnedS A)) = .ok (tc, na)) (hs : (cutS s 40).size = 0) (h3 : wholeS tc (cutS s 40) = some fc) (h4 : ∀ k, k < 1 + na.toNat → fc k = wholeF (cutS s 40).size na.toNat Sp.nowh Sp.nowh k) : Calls Try.prog 5 #[.string (str A), .string s] w fun e w' => e = .returned (.bool true) ∧ Upd [] w w' := by
  have HR2 : Hid (Sp.read (str A) = .ok (ta, na)) := hr2
  have hz : (cutS s 40).size ≤ 40 := by rw [cutS_size]; omega
  have hA : A.length ≤ 200 := by have := (Sp.read_choice hr2).1; rwa [Sp.str_size] at this
  have k1 : ∀ w, (Op.stringOp .add ⟨#[40, 63, 58]⟩ (str A)).run Try.prog w = .ok (.string (str (catL [40, 63, 58] A))) w := addL [40, 63, 58] A (by simp) (by omega)
  have k2 : ∀ w, (Op.stringOp .add (str (catL [40, 63, 58] A)) ⟨#[41, 42]⟩).run Try.prog w = .ok (.string (str (catL (catL [40, 63, 58] A) [41, 42]))) w := addL _ [41, 42] (by rw [catL_len]; simp; omega) (by simp)
  have HR4 : Hid (Sp.read (str (catL (catL [40, 63, 58] A) [41, 42])) = .ok (tc, na)) := hr4
  have HS : Hid ((cutS s 40).size = 0 ∧ wholeS tc (cutS s 40) = some fc ∧ ∀ k, k < 1 + na.toNat → fc k = wholeF (cutS s 40).size na.toNat Sp.nowh Sp.nowh k) := ⟨hs, h3, h4⟩
  clear hr2 hr4 hs h3 h4
  go_enter Try.func5, Try.ntmps5
  go_wp2_with fail
  refine (begun_any _).mono ?_
  rintro e w1 ⟨rfl, u1⟩
  have U1 : Hid (Upd [] w w1) := u1
  clear u1
  go_wp2_with fail
  refine (comp_yes (str A) ta na _ HR2.out).mono ?_
  rintro e w2 ⟨p, rfl, hp, h2, u2⟩
  have U2 : Hid (Upd [] w w2) := U1.out.trans u2
  have P2 : Hid (PatAt w2 p ta na.toNat) := h2
  clear u2 h2
  go_wp2_with fail
  refine (short_any s 40 _ (by omega)).mono ?_
  rintro e w4 ⟨rfl, hw4⟩
  rw [hw4]
  clear hw4 w4
  revert hz HS
  generalize cutS s 40 = S
  intro hz HS
  go_wp2_with fail
  refine (made_yes _ tc na _ HR4.out).mono ?_
  rintro e w5 ⟨r, rfl, h5, u5⟩
  have U5 : Hid (Upd [] w w5) := U2.out.trans u5
  have P5 : Hid (PatAt w5 r tc na.toNat) := h5
  have P5a : Hid (PatAt w5 p ta na.toNat) := P2.out.upd u5
  have na9 : na.toNat ≤ 9 := P5a.out.1
  clear u5 h5 P2
  generalize na.toNat = N at *
  have hz' : (S.size : Int) ≤ 40 := by omega
  go_wp2_with fail
  refine (groups_any p ta N _ P5a.out).mono ?_
  rintro e w9 ⟨rfl, hw9⟩
  rw [hw9]
  clear hw9 w9
  go_wp2_with fail
  refine (of_yes r tc N S _ (by omega) P5.out HS.out.2.1).mono ?_
  rintro e w6 ⟨g6, hg6, rfl, s6, u6⟩
  have U6 : Hid (Upd [] w w6) := U5.out.trans u6
  have G6 : Hid (SpansAt w6 g6 (N + 1) fc) := s6
  clear u6 s6
  unfold spansV
  have hS0 : S = ⟨#[]⟩ := by
    have h := HS.out.1
    cases S with
    | mk d => simp [ByteArray.size] at h; subst h; rfl
  subst hS0
  go_wp2_with fail
  refine (nowhere_any N _ (by omega)).mono ?_
  rintro e w7 ⟨v7, rfl, o7, u7⟩
  have O7 : Hid (SpO w7 w6.heap.size v7 N Sp.nowh) := o7
  have U7 : Hid (Upd [] w6 w7) := u7
  clear o7 u7
  go_wp2_with fail
  refine (whole_any _ v7 (.slice none 0 0) N 0 Sp.nowh Sp.nowh _ (by decide) O7.out.l (SpL.nil _ _) (by omega) (by omega)).mono ?_
  rintro e w8 ⟨v8, rfl, o8, u8⟩
  have O8 : Hid (SpO w8 w7.heap.size v8 (1 + N + 0) (wholeF (ByteArray.mk #[]).size N Sp.nowh Sp.nowh)) := o8
  have U8 : Hid (Upd [] w6 w8) := U7.out.trans u8
  have G8 : Hid (SpansAt w8 g6 (N + 1) fc) := (U8.out.block g6 (lt_of_heap G6.out) (by simp)).trans G6.out
  have HSB : Hid (sameB (N + 1) fc (1 + N + 0) (wholeF (ByteArray.mk #[]).size N Sp.nowh Sp.nowh) = true) := (sameB_iff _ _ _ _).mpr ⟨by omega, fun k hk => HS.out.2.2 k (by omega)⟩
  clear o8 u8
  go_wp2_with fail
  refine (same_any (.slice (some ⟨g6, 0, none⟩) (N + 1) (N + 1)) v8 (N + 1) (1 + N + 0) _ _ _ (SpansAt.own G8.out (by omega)) O8.out.l (by omega) (by omega)).mono ?_
  rw [HSB.out]
  rintro e w13 ⟨rfl, q13, rfl⟩
  go_wp2_with fail
  go_ret
  exact ⟨rfl, (U6.out.trans U8.out).trans (by (repeat (first | exact Upd.refl _ _ | refine Upd.drewN ?_ | refine Upd.drew ?_ | refine Upd.setCell ?_ (by simp) _ | refine Upd.alloc ?_ _)))⟩

theorem str_ne {S : ByteArray} (h : 0 < S.size) : S.toList.isEmpty = false := by
  rw [ByteArray.toList_eq]
  cases hd : S.data.toList with
  | nil =>
    exfalso
    have e : S.size = S.data.toList.length := rfl
    rw [hd, List.length_nil] at e
    omega
  | cons x r => rfl
/-- Behind some rounds of the loop of Turned. -/
structure TnInv (wb : World) (ta tc : Tr) (S : ByteArray) (N : Nat) (gn : Nat) (vw vk : Value) (wr : World) : Prop where
  st : Upd [] wb wr ∧ ((∃ c : Nat, vw = .slice none 0 0 ∧ vk = .int .i64 c ∧ c ≤ gn ∧ c ≤ S.size ∧ ∀ m, c < m → m ≤ S.size → ((Sp.sem S ta).m 0 m && (Sp.sem S tc).m m S.size) = false) ∨
    (∃ (K : Nat) (fl fm : Nat → Int × Int), vk = .int .i64 ((K : Int) - 1) ∧ Sp.greatest (fun k => (Sp.sem S ta).m 0 k && (Sp.sem S tc).m k S.size) 1 S.size = some K ∧ wholeS ta (S.extract 0 K) = some fl ∧ wholeS tc (S.extract K S.size) = some fm ∧ SpO wr wb.heap.size vw (1 + N + 0) (wholeF S.size N (lastF fl fm K) Sp.nowh)))
/-- Behind some rounds of its inner loop. -/
structure TlInv (wb : World) (b g cap : Nat) (N : Nat) (f h : Nat → Int × Int) (gn : Nat) (vi : Value) (wr : World) : Prop where
  st : ∃ c : Nat, vi = .int .i64 c ∧ c + gn = N ∧ Upd [g] wb wr ∧ SpO wr b (.slice (some ⟨g, 0, none⟩) N cap) N (fun k => if k < c then h k else f k)

set_option maxRecDepth 8000 in
set_option maxHeartbeats 1600000 in
theorem turned_yes (A : List UInt8) (s : ByteArray) (ta tc : Tr) (na : Int) (fc : Nat → Int × Int) (w : World) (hr2 : Sp.read (str A) = .ok (ta, na)) (hr4 : Sp.read (str (Sp.turnedS A)) = .ok (tc, na)) (hs : 0 < (cutS s 40).size) (h3 : wholeS tc (cutS s 40) = some fc) (hss : (Sp.greatest (fun k => (Sp.sem (cutS s 40) ta).m 0 k && (Sp.sem (cutS s 40) tc).m k (cutS s 40).size) 1 (cutS s 40).size = none → wholeS tc (cutS s 40) = none) ∧ (∀ K fl fm, Sp.greatest (fun k => (Sp.sem (cutS s 40) ta).m 0 k && (Sp.sem (cutS s 40) tc).m k (cutS s 40).size) 1 (cutS s 40).size = some K → wholeS ta ((cutS s 40).extract 0 K) = some fl → wholeS tc ((cutS s 40).extract K (cutS s 40).size) = some fm → ∃ f, wholeS tc (cutS s 40) = some f ∧ ∀ k, k < 1 + na.toNat → f k = wholeF (cutS s 40).size na.toNat (lastF fl fm K) Sp.nowh k)) : Calls Try.prog 5 #[.string (str A), .string s] w fun e w' => e = .returned (.bool true) ∧ Upd [] w w' := by
  have HR2 : Hid (Sp.read (str A) = .ok (ta, na)) := hr2
  have hz : (cutS s 40).size ≤ 40 := by rw [cutS_size]; omega
  have hA : A.length ≤ 200 := by have := (Sp.read_choice hr2).1; rwa [Sp.str_size] at this
  have k1 : ∀ w, (Op.stringOp .add ⟨#[40, 63, 58]⟩ (str A)).run Try.prog w = .ok (.string (str (catL [40, 63, 58] A))) w := addL [40, 63, 58] A (by simp) (by omega)
  have k2 : ∀ w, (Op.stringOp .add (str (catL [40, 63, 58] A)) ⟨#[41, 42]⟩).run Try.prog w = .ok (.string (str (catL (catL [40, 63, 58] A) [41, 42]))) w := addL _ [41, 42] (by rw [catL_len]; simp; omega) (by simp)
  have HR4 : Hid (Sp.read (str (catL (catL [40, 63, 58] A) [41, 42])) = .ok (tc, na)) := hr4
  have HS : Hid (0 < (cutS s 40).size ∧ wholeS tc (cutS s 40) = some fc ∧ (Sp.greatest (fun k => (Sp.sem (cutS s 40) ta).m 0 k && (Sp.sem (cutS s 40) tc).m k (cutS s 40).size) 1 (cutS s 40).size = none → wholeS tc (cutS s 40) = none) ∧ (∀ K fl fm, Sp.greatest (fun k => (Sp.sem (cutS s 40) ta).m 0 k && (Sp.sem (cutS s 40) tc).m k (cutS s 40).size) 1 (cutS s 40).size = some K → wholeS ta ((cutS s 40).extract 0 K) = some fl → wholeS tc ((cutS s 40).extract K (cutS s 40).size) = some fm → ∃ f, wholeS tc (cutS s 40) = some f ∧ ∀ k, k < 1 + na.toNat → f k = wholeF (cutS s 40).size na.toNat (lastF fl fm K) Sp.nowh k)) := ⟨hs, h3, hss⟩
  clear hr2 hr4 hs h3 hss
  go_enter Try.func5, Try.ntmps5
  go_wp2_with fail
  refine (begun_any _).mono ?_
  rintro e w1 ⟨rfl, u1⟩
  have U1 : Hid (Upd [] w w1) := u1
  clear u1
  go_wp2_with fail
  refine (comp_yes (str A) ta na _ HR2.out).mono ?_
  rintro e w2 ⟨p, rfl, hp, h2, u2⟩
  have U2 : Hid (Upd [] w w2) := U1.out.trans u2
  have P2 : Hid (PatAt w2 p ta na.toNat) := h2
  clear u2 h2
  go_wp2_with fail
  refine (short_any s 40 _ (by omega)).mono ?_
  rintro e w4 ⟨rfl, hw4⟩
  rw [hw4]
  clear hw4 w4
  revert hz HS
  generalize cutS s 40 = S
  intro hz HS
  go_wp2_with fail
  refine (made_yes _ tc na _ HR4.out).mono ?_
  rintro e w5 ⟨r, rfl, h5, u5⟩
  have U5 : Hid (Upd [] w w5) := U2.out.trans u5
  have P5 : Hid (PatAt w5 r tc na.toNat) := h5
  have P5a : Hid (PatAt w5 p ta na.toNat) := P2.out.upd u5
  have na9 : na.toNat ≤ 9 := P5a.out.1
  clear u5 h5 P2
  generalize na.toNat = N at *
  have hz' : (S.size : Int) ≤ 40 := by omega
  go_wp2_with fail
  refine (groups_any p ta N _ P5a.out).mono ?_
  rintro e w9 ⟨rfl, hw9⟩
  rw [hw9]
  clear hw9 w9
  go_wp2_with fail
  refine (of_yes r tc N S _ (by omega) P5.out HS.out.2.1).mono ?_
  rintro e w6 ⟨g6, hg6, rfl, s6, u6⟩
  have U6 : Hid (Upd [] w w6) := U5.out.trans u6
  have G6 : Hid (SpansAt w6 g6 (N + 1) fc) := s6
  have P6 : Hid (PatAt w6 r tc N) := P5.out.upd u6
  have P6a : Hid (PatAt w6 p ta N) := P5a.out.upd u6
  clear u6 s6
  unfold spansV
  have hS0 : 0 < S.size := HS.out.1
  have hne : S.toList.isEmpty = false := str_ne hS0
  go_wp2_with fail
  go_loopg [16, 17] (S.size + 2) (fun gn vw vk wr => TnInv w6 ta tc S N gn vw vk wr)
  case atStart => exact ⟨Upd.refl _ _, Or.inl ⟨S.size, rfl, rfl, by omega, by omega, fun m h1 h2 => by omega⟩⟩
  case round =>
    obtain ⟨hu, hst⟩ := hrel.st
    have HU : Hid (Upd [] w6 wr) := hu
    clear hu
    rcases hst with ⟨c, e1, e2, hc1, hc2, hno⟩ | ⟨K, fl, fm, e2, hK, hl, hm, ho⟩
    · subst e1 e2
      have NO : Hid (∀ m, c < m → m ≤ S.size → ((Sp.sem S ta).m 0 m && (Sp.sem S tc).m m S.size) = false) := hno
      clear hno
      by_cases h0 : c = 0
      · subst h0
        have hcon := HS.out.2.2.1 (greatest_no (fun m h1 h2 => NO.out m (by omega) h2))
        rw [HS.out.2.1] at hcon; cases hcon
      · have hc0 : (0 : Int) < c := by omega
        have hd : c ≤ S.size := hc2
        have hd' : (c : Int) ≤ S.size := by omega
        obtain ⟨gm, hgm⟩ : ∃ k, gk = k + 1 := ⟨gk - 1, by omega⟩
        have hzd : (S.extract 0 c).size ≤ 100 := by rw [extract_size S hd]; omega
        have hze : (S.extract c S.size).size ≤ 100 := by rw [extract_size S (Nat.le_refl _)]; omega
        cases hl : wholeS ta (S.extract 0 c) with
        | none =>
          have HL : Hid (wholeS ta (S.extract 0 c) = none) := hl
          have HM : Hid ((Sp.sem S ta).m 0 c = false) := by
            have := wholeS_pre ta S c hd
            rw [hl] at this
            split at this
            · cases this
            · rename_i q'; exact (by simpa using q' : (Sp.sem S ta).m 0 c = false)
          clear hl
          go_wp2_with fail
          refine (of_no p ta N (S.extract 0 c) _ hzd (P6a.out.upd HU.out) HL.out).mono ?_
          rintro e w7 ⟨rfl, u7⟩
          have U7 : Hid (Upd [] w6 w7) := HU.out.trans u7
          clear u7
          cases hm : wholeS tc (S.extract c S.size) with
          | none =>
            have HMM : Hid (wholeS tc (S.extract c S.size) = none) := hm
            clear hm
            go_wp2_with fail
            refine (of_no r tc N (S.extract c S.size) _ hze (P6.out.upd U7.out) HMM.out).mono ?_
            rintro e w8 ⟨rfl, u8⟩
            have U8 : Hid (Upd [] w6 w8) := U7.out.trans u8
            clear u8
            go_wp2_with fail
            go_roundg gm
            case measure => omega
            case rel => exact ⟨U8.out, Or.inl ⟨c - 1, rfl, int_eq (by omega), by omega, by omega, fun m h1 h2 => by
              rcases (by omega : m = c ∨ c < m) with q' | q'
              · subst q'; rw [HM.out]; rfl
              · exact NO.out m q' h2⟩⟩
          | some fm =>
            have HMM : Hid (wholeS tc (S.extract c S.size) = some fm) := hm
            clear hm
            go_wp2_with fail
            refine (of_yes r tc N (S.extract c S.size) _ hze (P6.out.upd U7.out) HMM.out).mono ?_
            rintro e w8 ⟨g8, hg8, rfl, s8, u8⟩
            have U8 : Hid (Upd [] w6 w8) := U7.out.trans u8
            clear u8 s8
            unfold spansV
            go_wp2_with fail
            go_roundg gm
            case measure => omega
            case rel => exact ⟨U8.out, Or.inl ⟨c - 1, rfl, int_eq (by omega), by omega, by omega, fun m h1 h2 => by
              rcases (by omega : m = c ∨ c < m) with q' | q'
              · subst q'; rw [HM.out]; rfl
              · exact NO.out m q' h2⟩⟩
        | some fl =>
          have HL : Hid (wholeS ta (S.extract 0 c) = some fl) := hl
          have HMA : Hid ((Sp.sem S ta).m 0 c = true) := by
            have := wholeS_pre ta S c hd
            rw [hl] at this
            split at this
            · rename_i q'; exact q'
            · cases this
          clear hl
          go_wp2_with fail
          refine (of_yes p ta N (S.extract 0 c) _ hzd (P6a.out.upd HU.out) HL.out).mono ?_
          rintro e w7 ⟨g7, hg7, rfl, s7, u7⟩
          have U7 : Hid (Upd [] w6 w7) := HU.out.trans u7
          have G7 : Hid (SpansAt w7 g7 (N + 1) fl) := s7
          clear u7 s7
          unfold spansV
          cases hm : wholeS tc (S.extract c S.size) with
          | none =>
            have HMM : Hid (wholeS tc (S.extract c S.size) = none) := hm
            have HM : Hid ((Sp.sem S tc).m c S.size = false) := by
              have := wholeS_end tc S c hd
              rw [hm] at this
              split at this
              · cases this
              · rename_i q'; exact (by simpa using q' : (Sp.sem S tc).m c S.size = false)
            clear hm
            go_wp2_with fail
            refine (of_no r tc N (S.extract c S.size) _ hze (P6.out.upd U7.out) HMM.out).mono ?_
            rintro e w8 ⟨rfl, u8⟩
            have U8 : Hid (Upd [] w6 w8) := U7.out.trans u8
            clear u8
            go_wp2_with fail
            go_roundg gm
            case measure => omega
            case rel => exact ⟨U8.out, Or.inl ⟨c - 1, rfl, int_eq (by omega), by omega, by omega, fun m h1 h2 => by
              rcases (by omega : m = c ∨ c < m) with q' | q'
              · subst q'; rw [HM.out]; simp
              · exact NO.out m q' h2⟩⟩
          | some fm =>
            have HMM : Hid (wholeS tc (S.extract c S.size) = some fm) := hm
            have HM : Hid ((Sp.sem S tc).m c S.size = true) := by
              have := wholeS_end tc S c hd
              rw [hm] at this
              split at this
              · rename_i q'; exact q'
              · cases this
            clear hm
            have HK : Hid (Sp.greatest (fun k => (Sp.sem S ta).m 0 k && (Sp.sem S tc).m k S.size) 1 S.size = some c) := Sp.greatest_is (by omega) hd (by rw [HMA.out, HM.out]; rfl) (fun m h1 h2 => NO.out m (by omega) h2)
            go_wp2_with fail
            refine (of_yes r tc N (S.extract c S.size) _ hze (P6.out.upd U7.out) HMM.out).mono ?_
            rintro e w8 ⟨g8, hg8, rfl, s8, u8⟩
            have U8 : Hid (Upd [] w6 w8) := U7.out.trans u8
            have G8 : Hid (SpansAt w8 g8 (N + 1) fm) := s8
            have G78 : Hid (SpansAt w8 g7 (N + 1) fl) := (u8.block g7 (lt_of_heap G7.out) (by simp)).trans G7.out
            clear u8 s8
            unfold spansV
            go_wp2_with fail
            refine (moved_any (.slice (some ⟨g7, 0, none⟩) (N + 1) (N + 1)) (N + 1) 0 fl _ (SpansAt.own G78.out (by omega)) (by omega) (by omega) (fun k _ => wholeS_bd (by omega) HL.out k)).mono ?_
            rintro e w10 ⟨v10, rfl, o10, u10⟩
            have O10 : Hid (SpO w10 w8.heap.size v10 N (fun k => Sp.mv ((0 : Nat) : Int) (fl (k + 1)))) := o10
            have U10 : Hid (Upd [] w8 w10) := u10
            have G8b : Hid (SpansAt w10 g8 (N + 1) fm) := (u10.block g8 (lt_of_heap G8.out) (by simp)).trans G8.out
            clear o10 u10
            go_wp2_with fail
            refine (moved_any (.slice (some ⟨g8, 0, none⟩) (N + 1) (N + 1)) (N + 1) c fm _ (SpansAt.own G8b.out (by omega)) (by omega) (by omega) (fun k _ => wholeS_bd (by omega) HMM.out k)).mono ?_
            rintro e w11 ⟨v11, rfl, o11, u11⟩
            have O11 : Hid (SpO w11 w10.heap.size v11 N (fun k => Sp.mv c (fm (k + 1)))) := o11
            have O10b : Hid (SpO w11 w8.heap.size v10 N (fun k => Sp.mv ((0 : Nat) : Int) (fl (k + 1)))) := O10.out.upd u11 (by simp)
            have U11 : Hid (Upd [] w8 w11) := U10.out.trans u11
            clear o11 u11
            by_cases hN : N = 0
            · subst hN
              obtain ⟨x, y, hxy, hxy2⟩ := O10b.out.slice
              subst hxy
              go_wp2_with fail
              refine wp_loop_rounds 1 ?_
              rw [rounds_succ]
              go_wp2_with fail
              refine (whole_any S (.slice x 0 y) (.slice none 0 0) 0 0 _ Sp.nowh _ (by omega) O10b.out.l (SpL.nil _ _) (by omega) (by omega)).mono ?_
              rintro e w12 ⟨v12, rfl, o12, u12⟩
              have U12 : Hid (Upd [] w6 w12) := U8.out.trans (U11.out.trans u12)
              have O12 : Hid (SpO w12 w6.heap.size v12 (1 + 0 + 0) (wholeF S.size 0 (lastF fl fm c) Sp.nowh)) := by
                refine SpO.congr (SpO.mono o12 (by have := U8.out.size; have := U11.out.size; omega)) rfl (fun k hk => ?_)
                obtain rfl : k = 0 := by omega
                rfl
              clear o12 u12
              go_wp2_with fail
              go_roundg gm
              case measure => omega
              case rel => exact ⟨U12.out, Or.inr ⟨c, fl, fm, rfl, HK.out, HL.out, HMM.out, O12.out⟩⟩
            · rcases SpL.form O10b.out.l with ⟨_, q0⟩ | ⟨ga, ca, e10, hga, _⟩
              · omega
              rcases SpL.form O11.out.l with ⟨_, q0⟩ | ⟨gb, cb, e11, hgb, b0, b1⟩
              · omega
              subst e10 e11
              have hab : ga < w10.heap.size ∧ w10.heap.size ≤ gb ∧ w8.heap.size ≤ ga := by
                have h1 := (ownBlock_lt O10.out rfl).1
                have h2 := (ownBlock_lt O11.out rfl).2
                have h3 := (ownBlock_lt O10.out rfl).2
                exact ⟨h1, h2, h3⟩
              have B0 : Hid (∀ k, k < N → w11.cell? ⟨gb, k * 2, none⟩ = some (.int .i64 (Sp.mv c (fm (k + 1))).1)) := b0
              have B1 : Hid (∀ k, k < N → w11.cell? ⟨gb, k * 2 + 1, none⟩ = some (.int .i64 (Sp.mv c (fm (k + 1))).2)) := b1
              clear b0 b1
              go_wp2_with fail
              go_loopg [24] N (fun gn vi wr => TlInv w11 w8.heap.size ga ca N (fun k => Sp.mv ((0 : Nat) : Int) (fl (k + 1))) (lastF fl fm c) gn vi wr)
              case atStart => exact ⟨0, rfl, by omega, Upd.refl _ _, SpO.congr O10b.out rfl (fun k hk => by rw [if_neg (Nat.not_lt_zero k)])⟩
              case round =>
                obtain ⟨i, hvi, hin, hui, hoi⟩ := hrel.st
                subst hvi
                have HUI : Hid (Upd [ga] w11 wr) := hui
                have HOI : Hid (SpO wr w8.heap.size (.slice (some ⟨ga, 0, none⟩) N ca) N (fun k => if k < i then lastF fl fm c k else Sp.mv ((0 : Nat) : Int) (fl (k + 1)))) := hoi
                by_cases hi : i < N
                · have hi' : (i : Int) < N := by omega
                  obtain ⟨gj, hgj⟩ : ∃ k, gk = k + 1 := ⟨gk - 1, by omega⟩
                  obtain ⟨z0, z1, z2, z3, z4⟩ := hoi.cells0 (by omega)
                  have y0 := z3 i hi
                  have y1 := z4 i hi
                  have t0 : wr.cell? ⟨gb, i * 2, none⟩ = some (.int .i64 (Sp.mv c (fm (i + 1))).1) := by
                    rw [← B0.out i hi]; exact cell_eq (hui.block gb hgb (by simp; omega)) _
                  have t1 : wr.cell? ⟨gb, i * 2 + 1, none⟩ = some (.int .i64 (Sp.mv c (fm (i + 1))).2) := by
                    rw [← B1.out i hi]; exact cell_eq (hui.block gb hgb (by simp; omega)) _
                  have HV : Hid (lastF fl fm c i = if 0 ≤ (Sp.mv c (fm (i + 1))).1 then ((Sp.mv c (fm (i + 1))).1, (Sp.mv c (fm (i + 1))).2) else Sp.mv ((0 : Nat) : Int) (fl (i + 1))) := rfl
                  revert t0 t1 HV
                  generalize (Sp.mv c (fm (i + 1))).1 = X
                  generalize (Sp.mv c (fm (i + 1))).2 = Y
                  intro t0 t1 HV
                  clear hui hoi z3 z4
                  by_cases hX : 0 ≤ X
                  · have RL : Hid (TlInv w11 w8.heap.size ga ca N (fun k => Sp.mv ((0 : Nat) : Int) (fl (k + 1))) (lastF fl fm c) gj (.int .i64 ((i + 1 : Nat) : Int)) ((wr.setCell ⟨ga, i * 2, none⟩ (.int .i64 X)).setCell ⟨ga, i * 2 + 1, none⟩ (.int .i64 Y))) := by
                      refine ⟨i + 1, rfl, by omega, HUI.out.trans (by (repeat (first | exact Upd.refl _ _ | refine Upd.drewN ?_ | refine Upd.drew ?_ | refine Upd.setCell ?_ (by simp) _ | refine Upd.alloc ?_ _))), SpO.congr (HOI.out.put i hi X Y) rfl (fun k hk => ?_)⟩
                      by_cases h1 : k = i
                      · subst h1; rw [if_pos rfl, if_pos (by omega), HV.out, if_pos hX]
                      · rw [if_neg h1]
                        by_cases h2 : k < i
                        · rw [if_pos h2, if_pos (by omega)]
                        · rw [if_neg h2, if_neg (by omega)]
                    go_wp2_with fail
                    go_roundg gj
                    case measure => omega
                    case rel => exact RL.out
                  · have RL : Hid (TlInv w11 w8.heap.size ga ca N (fun k => Sp.mv ((0 : Nat) : Int) (fl (k + 1))) (lastF fl fm c) gj (.int .i64 ((i + 1 : Nat) : Int)) wr) := by
                      refine ⟨i + 1, rfl, by omega, HUI.out, SpO.congr HOI.out rfl (fun k hk => ?_)⟩
                      by_cases h1 : k = i
                      · subst h1; rw [if_neg (by omega), if_pos (by omega), HV.out, if_neg hX]
                      · by_cases h2 : k < i
                        · rw [if_pos h2, if_pos (by omega)]
                        · rw [if_neg h2, if_neg (by omega)]
                    go_wp2_with fail
                    go_roundg gj
                    case measure => omega
                    case rel => exact RL.out
                · have hi' : ¬ (i : Int) < N := by omega
                  have HLF : Hid (SpO wr w8.heap.size (.slice (some ⟨ga, 0, none⟩) N ca) N (lastF fl fm c)) := SpO.congr HOI.out rfl (fun k hk => by rw [if_pos (by omega)])
                  have HUW : Hid (Upd [] w8 wr) := U11.out.hide HUI.out hab.2.2
                  clear hui hoi
                  go_wp2_with fail
                  refine (whole_any S (.slice (some ⟨ga, 0, none⟩) N ca) (.slice none 0 0) N 0 _ Sp.nowh _ (by omega) HLF.out.l (SpL.nil _ _) (by omega) (by omega)).mono ?_
                  rintro e w12 ⟨v12, rfl, o12, u12⟩
                  have U12 : Hid (Upd [] w6 w12) := U8.out.trans (HUW.out.trans u12)
                  have O12 : Hid (SpO w12 w6.heap.size v12 (1 + N + 0) (wholeF S.size N (lastF fl fm c) Sp.nowh)) := SpO.mono o12 (by have := U8.out.size; have := HUW.out.size; omega)
                  clear o12 u12
                  go_wp2_with fail
                  go_roundg gm
                  case measure => omega
                  case rel => exact ⟨U12.out, Or.inr ⟨c, fl, fm, rfl, HK.out, HL.out, HMM.out, O12.out⟩⟩
    · subst e2
      obtain ⟨f, h3, h4⟩ := HS.out.2.2.2 K fl fm hK hl hm
      have hff : fc = f := by rw [HS.out.2.1] at h3; exact Option.some.inj h3
      have HF : Hid (∀ k, k < 1 + N → fc k = wholeF S.size N (lastF fl fm K) Sp.nowh k) := by rw [hff]; exact h4
      have HO : Hid (SpO wr w6.heap.size u16 (1 + N + 0) (wholeF S.size N (lastF fl fm K) Sp.nowh)) := ho
      obtain ⟨x, y, hxy, hxy2⟩ := ho.slice
      have hne3 : ¬ ((1 : Int) + N = 0) := by omega
      have hne4 : ¬ (1 + N = 0) := by omega
      clear ho h3 h4 hK hl hm hff
      subst hxy
      have GW : Hid (SpansAt wr g6 (N + 1) fc) := (HU.out.block g6 (lt_of_heap G6.out) (by simp)).trans G6.out
      have HSB : Hid (sameB (N + 1) fc (1 + N + 0) (wholeF S.size N (lastF fl fm K) Sp.nowh) = true) := (sameB_iff _ _ _ _).mpr ⟨by omega, fun k hk => HF.out k (by omega)⟩
      have hk0 : (0 : Int) < (K : Int) - 1 ∨ ¬ (0 : Int) < (K : Int) - 1 := by omega
      rcases hk0 with hk0 | hk0
      all_goals
        go_wp2_with fail
        refine (same_any (.slice (some ⟨g6, 0, none⟩) (N + 1) (N + 1)) (.slice x (1 + N + 0) y) (N + 1) (1 + N + 0) _ _ _ (SpansAt.own GW.out (by omega)) HO.out.l (by omega) (by omega)).mono ?_
        rw [HSB.out]
        rintro e w13 ⟨rfl, q13, rfl⟩
        go_wp2_with fail
        go_ret
        exact ⟨rfl, (U6.out.trans HU.out).trans (by (repeat (first | exact Upd.refl _ _ | refine Upd.drewN ?_ | refine Upd.drew ?_ | refine Upd.setCell ?_ (by simp) _ | refine Upd.alloc ?_ _)))⟩

set_option maxRecDepth 8000 in
set_option maxHeartbeats 1600000 in
theorem turned_no (A : List UInt8) (s : ByteArray) (ta tc : Tr) (na : Int) (w : World) (hr2 : Sp.read (str A) = .ok (ta, na)) (hr4 : Sp.read (str (Sp.turnedS A)) = .ok (tc, na)) (hs : 0 < (cutS s 40).size) (h3 : wholeS tc (cutS s 40) = none) (hss : (Sp.greatest (fun k => (Sp.sem (cutS s 40) ta).m 0 k && (Sp.sem (cutS s 40) tc).m k (cutS s 40).size) 1 (cutS s 40).size = none → wholeS tc (cutS s 40) = none) ∧ (∀ K fl fm, Sp.greatest (fun k => (Sp.sem (cutS s 40) ta).m 0 k && (Sp.sem (cutS s 40) tc).m k (cutS s 40).size) 1 (cutS s 40).size = some K → wholeS ta ((cutS s 40).extract 0 K) = some fl → wholeS tc ((cutS s 40).extract K (cutS s 40).size) = some fm → ∃ f, wholeS tc (cutS s 40) = some f ∧ ∀ k, k < 1 + na.toNat → f k = wholeF (cutS s 40).size na.toNat (lastF fl fm K) Sp.nowh k)) : Calls Try.prog 5 #[.string (str A), .string s] w fun e w' => e = .returned (.bool true) ∧ Upd [] w w' := by
  have HR2 : Hid (Sp.read (str A) = .ok (ta, na)) := hr2
  have hz : (cutS s 40).size ≤ 40 := by rw [cutS_size]; omega
  have hA : A.length ≤ 200 := by have := (Sp.read_choice hr2).1; rwa [Sp.str_size] at this
  have k1 : ∀ w, (Op.stringOp .add ⟨#[40, 63, 58]⟩ (str A)).run Try.prog w = .ok (.string (str (catL [40, 63, 58] A))) w := addL [40, 63, 58] A (by simp) (by omega)
  have k2 : ∀ w, (Op.stringOp .add (str (catL [40, 63, 58] A)) ⟨#[41, 42]⟩).run Try.prog w = .ok (.string (str (catL (catL [40, 63, 58] A) [41, 42]))) w := addL _ [41, 42] (by rw [catL_len]; simp; omega) (by simp)
  have HR4 : Hid (Sp.read (str (catL (catL [40, 63, 58] A) [41, 42])) = .ok (tc, na)) := hr4
  have HS : Hid (0 < (cutS s 40).size ∧ wholeS tc (cutS s 40) = none ∧ (Sp.greatest (fun k => (Sp.sem (cutS s 40) ta).m 0 k && (Sp.sem (cutS s 40) tc).m k (cutS s 40).size) 1 (cutS s 40).size = none → wholeS tc (cutS s 40) = none) ∧ (∀ K fl fm, Sp.greatest (fun k => (Sp.sem (cutS s 40) ta).m 0 k && (Sp.sem (cutS s 40) tc).m k (cutS s 40).size) 1 (cutS s 40).size = some K → wholeS ta ((cutS s 40).extract 0 K) = some fl → wholeS tc ((cutS s 40).extract K (cutS s 40).size) = some fm → ∃ f, wholeS tc (cutS s 40) = some f ∧ ∀ k, k < 1 + na.toNat → f k = wholeF (cutS s 40).size na.toNat (lastF fl fm K) Sp.nowh k)) := ⟨hs, h3, hss⟩
  clear hr2 hr4 hs h3 hss
  go_enter Try.func5, Try.ntmps5
  go_wp2_with fail
  refine (begun_any _).mono ?_
  rintro e w1 ⟨rfl, u1⟩
  have U1 : Hid (Upd [] w w1) := u1
  clear u1
  go_wp2_with fail
  refine (comp_yes (str A) ta na _ HR2.out).mono ?_
  rintro e w2 ⟨p, rfl, hp, h2, u2⟩
  have U2 : Hid (Upd [] w w2) := U1.out.trans u2
  have P2 : Hid (PatAt w2 p ta na.toNat) := h2
  clear u2 h2
  go_wp2_with fail
  refine (short_any s 40 _ (by omega)).mono ?_
  rintro e w4 ⟨rfl, hw4⟩
  rw [hw4]
  clear hw4 w4
  revert hz HS
  generalize cutS s 40 = S
  intro hz HS
  go_wp2_with fail
  refine (made_yes _ tc na _ HR4.out).mono ?_
  rintro e w5 ⟨r, rfl, h5, u5⟩
  have U5 : Hid (Upd [] w w5) := U2.out.trans u5
  have P5 : Hid (PatAt w5 r tc na.toNat) := h5
  have P5a : Hid (PatAt w5 p ta na.toNat) := P2.out.upd u5
  have na9 : na.toNat ≤ 9 := P5a.out.1
  clear u5 h5 P2
  generalize na.toNat = N at *
  have hz' : (S.size : Int) ≤ 40 := by omega
  go_wp2_with fail
  refine (groups_any p ta N _ P5a.out).mono ?_
  rintro e w9 ⟨rfl, hw9⟩
  rw [hw9]
  clear hw9 w9
  go_wp2_with fail
  refine (of_no r tc N S _ (by omega) P5.out HS.out.2.1).mono ?_
  rintro e w6 ⟨rfl, u6⟩
  have U6 : Hid (Upd [] w w6) := U5.out.trans u6
  have P6 : Hid (PatAt w6 r tc N) := P5.out.upd u6
  have P6a : Hid (PatAt w6 p ta N) := P5a.out.upd u6
  clear u6
  have hS0 : 0 < S.size := HS.out.1
  have hne : S.toList.isEmpty = false := str_ne hS0
  go_wp2_with fail
  go_loopg [16, 17] (S.size + 2) (fun gn vw vk wr => TnInv w6 ta tc S N gn vw vk wr)
  case atStart => exact ⟨Upd.refl _ _, Or.inl ⟨S.size, rfl, rfl, by omega, by omega, fun m h1 h2 => by omega⟩⟩
  case round =>
    obtain ⟨hu, hst⟩ := hrel.st
    have HU : Hid (Upd [] w6 wr) := hu
    clear hu
    rcases hst with ⟨c, e1, e2, hc1, hc2, hno⟩ | ⟨K, fl, fm, e2, hK, hl, hm, ho⟩
    · subst e1 e2
      have NO : Hid (∀ m, c < m → m ≤ S.size → ((Sp.sem S ta).m 0 m && (Sp.sem S tc).m m S.size) = false) := hno
      clear hno
      by_cases h0 : c = 0
      · subst h0
        go_wp2_with fail
        refine (same_any (.slice none 0 0) (.slice none 0 0) 0 0 Sp.nowh Sp.nowh _ (SpL.nil _ _) (SpL.nil _ _) (by omega) (by omega)).mono ?_
        rintro e w10 ⟨rfl, q10, rfl⟩
        have hsb : sameB 0 Sp.nowh 0 Sp.nowh = true := by simp [sameB]
        rw [hsb]
        go_wp2_with fail
        go_ret
        exact ⟨rfl, (U6.out.trans HU.out).trans (by (repeat (first | exact Upd.refl _ _ | refine Upd.drewN ?_ | refine Upd.drew ?_ | refine Upd.setCell ?_ (by simp) _ | refine Upd.alloc ?_ _)))⟩
      · have hc0 : (0 : Int) < c := by omega
        have hd : c ≤ S.size := hc2
        have hd' : (c : Int) ≤ S.size := by omega
        obtain ⟨gm, hgm⟩ : ∃ k, gk = k + 1 := ⟨gk - 1, by omega⟩
        have hzd : (S.extract 0 c).size ≤ 100 := by rw [extract_size S hd]; omega
        have hze : (S.extract c S.size).size ≤ 100 := by rw [extract_size S (Nat.le_refl _)]; omega
        cases hl : wholeS ta (S.extract 0 c) with
        | none =>
          have HL : Hid (wholeS ta (S.extract 0 c) = none) := hl
          have HM : Hid ((Sp.sem S ta).m 0 c = false) := by
            have := wholeS_pre ta S c hd
            rw [hl] at this
            split at this
            · cases this
            · rename_i q'; exact (by simpa using q' : (Sp.sem S ta).m 0 c = false)
          clear hl
          go_wp2_with fail
          refine (of_no p ta N (S.extract 0 c) _ hzd (P6a.out.upd HU.out) HL.out).mono ?_
          rintro e w7 ⟨rfl, u7⟩
          have U7 : Hid (Upd [] w6 w7) := HU.out.trans u7
          clear u7
          cases hm : wholeS tc (S.extract c S.size) with
          | none =>
            have HMM : Hid (wholeS tc (S.extract c S.size) = none) := hm
            clear hm
            go_wp2_with fail
            refine (of_no r tc N (S.extract c S.size) _ hze (P6.out.upd U7.out) HMM.out).mono ?_
            rintro e w8 ⟨rfl, u8⟩
            have U8 : Hid (Upd [] w6 w8) := U7.out.trans u8
            clear u8
            go_wp2_with fail
            go_roundg gm
            case measure => omega
            case rel => exact ⟨U8.out, Or.inl ⟨c - 1, rfl, int_eq (by omega), by omega, by omega, fun m h1 h2 => by
              rcases (by omega : m = c ∨ c < m) with q' | q'
              · subst q'; rw [HM.out]; rfl
              · exact NO.out m q' h2⟩⟩
          | some fm =>
            have HMM : Hid (wholeS tc (S.extract c S.size) = some fm) := hm
            clear hm
            go_wp2_with fail
            refine (of_yes r tc N (S.extract c S.size) _ hze (P6.out.upd U7.out) HMM.out).mono ?_
            rintro e w8 ⟨g8, hg8, rfl, s8, u8⟩
            have U8 : Hid (Upd [] w6 w8) := U7.out.trans u8
            clear u8 s8
            unfold spansV
            go_wp2_with fail
            go_roundg gm
            case measure => omega
            case rel => exact ⟨U8.out, Or.inl ⟨c - 1, rfl, int_eq (by omega), by omega, by omega, fun m h1 h2 => by
              rcases (by omega : m = c ∨ c < m) with q' | q'
              · subst q'; rw [HM.out]; rfl
              · exact NO.out m q' h2⟩⟩
        | some fl =>
          have HL : Hid (wholeS ta (S.extract 0 c) = some fl) := hl
          have HMA : Hid ((Sp.sem S ta).m 0 c = true) := by
            have := wholeS_pre ta S c hd
            rw [hl] at this
            split at this
            · rename_i q'; exact q'
            · cases this
          clear hl
          go_wp2_with fail
          refine (of_yes p ta N (S.extract 0 c) _ hzd (P6a.out.upd HU.out) HL.out).mono ?_
          rintro e w7 ⟨g7, hg7, rfl, s7, u7⟩
          have U7 : Hid (Upd [] w6 w7) := HU.out.trans u7
          have G7 : Hid (SpansAt w7 g7 (N + 1) fl) := s7
          clear u7 s7
          unfold spansV
          cases hm : wholeS tc (S.extract c S.size) with
          | none =>
            have HMM : Hid (wholeS tc (S.extract c S.size) = none) := hm
            have HM : Hid ((Sp.sem S tc).m c S.size = false) := by
              have := wholeS_end tc S c hd
              rw [hm] at this
              split at this
              · cases this
              · rename_i q'; exact (by simpa using q' : (Sp.sem S tc).m c S.size = false)
            clear hm
            go_wp2_with fail
            refine (of_no r tc N (S.extract c S.size) _ hze (P6.out.upd U7.out) HMM.out).mono ?_
            rintro e w8 ⟨rfl, u8⟩
            have U8 : Hid (Upd [] w6 w8) := U7.out.trans u8
            clear u8
            go_wp2_with fail
            go_roundg gm
            case measure => omega
            case rel => exact ⟨U8.out, Or.inl ⟨c - 1, rfl, int_eq (by omega), by omega, by omega, fun m h1 h2 => by
              rcases (by omega : m = c ∨ c < m) with q' | q'
              · subst q'; rw [HM.out]; simp
              · exact NO.out m q' h2⟩⟩
          | some fm =>
            have HMM : Hid (wholeS tc (S.extract c S.size) = some fm) := hm
            have HM : Hid ((Sp.sem S tc).m c S.size = true) := by
              have := wholeS_end tc S c hd
              rw [hm] at this
              split at this
              · rename_i q'; exact q'
              · cases this
            clear hm
            have HK : Hid (Sp.greatest (fun k => (Sp.sem S ta).m 0 k && (Sp.sem S tc).m k S.size) 1 S.size = some c) := Sp.greatest_is (by omega) hd (by rw [HMA.out, HM.out]; rfl) (fun m h1 h2 => NO.out m (by omega) h2)
            go_wp2_with fail
            refine (of_yes r tc N (S.extract c S.size) _ hze (P6.out.upd U7.out) HMM.out).mono ?_
            rintro e w8 ⟨g8, hg8, rfl, s8, u8⟩
            have U8 : Hid (Upd [] w6 w8) := U7.out.trans u8
            have G8 : Hid (SpansAt w8 g8 (N + 1) fm) := s8
            have G78 : Hid (SpansAt w8 g7 (N + 1) fl) := (u8.block g7 (lt_of_heap G7.out) (by simp)).trans G7.out
            clear u8 s8
            unfold spansV
            go_wp2_with fail
            refine (moved_any (.slice (some ⟨g7, 0, none⟩) (N + 1) (N + 1)) (N + 1) 0 fl _ (SpansAt.own G78.out (by omega)) (by omega) (by omega) (fun k _ => wholeS_bd (by omega) HL.out k)).mono ?_
            rintro e w10 ⟨v10, rfl, o10, u10⟩
            have O10 : Hid (SpO w10 w8.heap.size v10 N (fun k => Sp.mv ((0 : Nat) : Int) (fl (k + 1)))) := o10
            have U10 : Hid (Upd [] w8 w10) := u10
            have G8b : Hid (SpansAt w10 g8 (N + 1) fm) := (u10.block g8 (lt_of_heap G8.out) (by simp)).trans G8.out
            clear o10 u10
            go_wp2_with fail
            refine (moved_any (.slice (some ⟨g8, 0, none⟩) (N + 1) (N + 1)) (N + 1) c fm _ (SpansAt.own G8b.out (by omega)) (by omega) (by omega) (fun k _ => wholeS_bd (by omega) HMM.out k)).mono ?_
            rintro e w11 ⟨v11, rfl, o11, u11⟩
            have O11 : Hid (SpO w11 w10.heap.size v11 N (fun k => Sp.mv c (fm (k + 1)))) := o11
            have O10b : Hid (SpO w11 w8.heap.size v10 N (fun k => Sp.mv ((0 : Nat) : Int) (fl (k + 1)))) := O10.out.upd u11 (by simp)
            have U11 : Hid (Upd [] w8 w11) := U10.out.trans u11
            clear o11 u11
            by_cases hN : N = 0
            · subst hN
              obtain ⟨x, y, hxy, hxy2⟩ := O10b.out.slice
              subst hxy
              go_wp2_with fail
              refine wp_loop_rounds 1 ?_
              rw [rounds_succ]
              go_wp2_with fail
              refine (whole_any S (.slice x 0 y) (.slice none 0 0) 0 0 _ Sp.nowh _ (by omega) O10b.out.l (SpL.nil _ _) (by omega) (by omega)).mono ?_
              rintro e w12 ⟨v12, rfl, o12, u12⟩
              have U12 : Hid (Upd [] w6 w12) := U8.out.trans (U11.out.trans u12)
              have O12 : Hid (SpO w12 w6.heap.size v12 (1 + 0 + 0) (wholeF S.size 0 (lastF fl fm c) Sp.nowh)) := by
                refine SpO.congr (SpO.mono o12 (by have := U8.out.size; have := U11.out.size; omega)) rfl (fun k hk => ?_)
                obtain rfl : k = 0 := by omega
                rfl
              clear o12 u12
              go_wp2_with fail
              go_roundg gm
              case measure => omega
              case rel => exact ⟨U12.out, Or.inr ⟨c, fl, fm, rfl, HK.out, HL.out, HMM.out, O12.out⟩⟩
            · rcases SpL.form O10b.out.l with ⟨_, q0⟩ | ⟨ga, ca, e10, hga, _⟩
              · omega
              rcases SpL.form O11.out.l with ⟨_, q0⟩ | ⟨gb, cb, e11, hgb, b0, b1⟩
              · omega
              subst e10 e11
              have hab : ga < w10.heap.size ∧ w10.heap.size ≤ gb ∧ w8.heap.size ≤ ga := by
                have h1 := (ownBlock_lt O10.out rfl).1
                have h2 := (ownBlock_lt O11.out rfl).2
                have h3 := (ownBlock_lt O10.out rfl).2
                exact ⟨h1, h2, h3⟩
              have B0 : Hid (∀ k, k < N → w11.cell? ⟨gb, k * 2, none⟩ = some (.int .i64 (Sp.mv c (fm (k + 1))).1)) := b0
              have B1 : Hid (∀ k, k < N → w11.cell? ⟨gb, k * 2 + 1, none⟩ = some (.int .i64 (Sp.mv c (fm (k + 1))).2)) := b1
              clear b0 b1
              go_wp2_with fail
              go_loopg [24] N (fun gn vi wr => TlInv w11 w8.heap.size ga ca N (fun k => Sp.mv ((0 : Nat) : Int) (fl (k + 1))) (lastF fl fm c) gn vi wr)
              case atStart => exact ⟨0, rfl, by omega, Upd.refl _ _, SpO.congr O10b.out rfl (fun k hk => by rw [if_neg (Nat.not_lt_zero k)])⟩
              case round =>
                obtain ⟨i, hvi, hin, hui, hoi⟩ := hrel.st
                subst hvi
                have HUI : Hid (Upd [ga] w11 wr) := hui
                have HOI : Hid (SpO wr w8.heap.size (.slice (some ⟨ga, 0, none⟩) N ca) N (fun k => if k < i then lastF fl fm c k else Sp.mv ((0 : Nat) : Int) (fl (k + 1)))) := hoi
                by_cases hi : i < N
                · have hi' : (i : Int) < N := by omega
                  obtain ⟨gj, hgj⟩ : ∃ k, gk = k + 1 := ⟨gk - 1, by omega⟩
                  obtain ⟨z0, z1, z2, z3, z4⟩ := hoi.cells0 (by omega)
                  have y0 := z3 i hi
                  have y1 := z4 i hi
                  have t0 : wr.cell? ⟨gb, i * 2, none⟩ = some (.int .i64 (Sp.mv c (fm (i + 1))).1) := by
                    rw [← B0.out i hi]; exact cell_eq (hui.block gb hgb (by simp; omega)) _
                  have t1 : wr.cell? ⟨gb, i * 2 + 1, none⟩ = some (.int .i64 (Sp.mv c (fm (i + 1))).2) := by
                    rw [← B1.out i hi]; exact cell_eq (hui.block gb hgb (by simp; omega)) _
                  have HV : Hid (lastF fl fm c i = if 0 ≤ (Sp.mv c (fm (i + 1))).1 then ((Sp.mv c (fm (i + 1))).1, (Sp.mv c (fm (i + 1))).2) else Sp.mv ((0 : Nat) : Int) (fl (i + 1))) := rfl
                  revert t0 t1 HV
                  generalize (Sp.mv c (fm (i + 1))).1 = X
                  generalize (Sp.mv c (fm (i + 1))).2 = Y
                  intro t0 t1 HV
                  clear hui hoi z3 z4
                  by_cases hX : 0 ≤ X
                  · have RL : Hid (TlInv w11 w8.heap.size ga ca N (fun k => Sp.mv ((0 : Nat) : Int) (fl (k + 1))) (lastF fl fm c) gj (.int .i64 ((i + 1 : Nat) : Int)) ((wr.setCell ⟨ga, i * 2, none⟩ (.int .i64 X)).setCell ⟨ga, i * 2 + 1, none⟩ (.int .i64 Y))) := by
                      refine ⟨i + 1, rfl, by omega, HUI.out.trans (by (repeat (first | exact Upd.refl _ _ | refine Upd.drewN ?_ | refine Upd.drew ?_ | refine Upd.setCell ?_ (by simp) _ | refine Upd.alloc ?_ _))), SpO.congr (HOI.out.put i hi X Y) rfl (fun k hk => ?_)⟩
                      by_cases h1 : k = i
                      · subst h1; rw [if_pos rfl, if_pos (by omega), HV.out, if_pos hX]
                      · rw [if_neg h1]
                        by_cases h2 : k < i
                        · rw [if_pos h2, if_pos (by omega)]
                        · rw [if_neg h2, if_neg (by omega)]
                    go_wp2_with fail
                    go_roundg gj
                    case measure => omega
                    case rel => exact RL.out
                  · have RL : Hid (TlInv w11 w8.heap.size ga ca N (fun k => Sp.mv ((0 : Nat) : Int) (fl (k + 1))) (lastF fl fm c) gj (.int .i64 ((i + 1 : Nat) : Int)) wr) := by
                      refine ⟨i + 1, rfl, by omega, HUI.out, SpO.congr HOI.out rfl (fun k hk => ?_)⟩
                      by_cases h1 : k = i
                      · subst h1; rw [if_neg (by omega), if_pos (by omega), HV.out, if_neg hX]
                      · by_cases h2 : k < i
                        · rw [if_pos h2, if_pos (by omega)]
                        · rw [if_neg h2, if_neg (by omega)]
                    go_wp2_with fail
                    go_roundg gj
                    case measure => omega
                    case rel => exact RL.out
                · have hi' : ¬ (i : Int) < N := by omega
                  have HLF : Hid (SpO wr w8.heap.size (.slice (some ⟨ga, 0, none⟩) N ca) N (lastF fl fm c)) := SpO.congr HOI.out rfl (fun k hk => by rw [if_pos (by omega)])
                  have HUW : Hid (Upd [] w8 wr) := U11.out.hide HUI.out hab.2.2
                  clear hui hoi
                  go_wp2_with fail
                  refine (whole_any S (.slice (some ⟨ga, 0, none⟩) N ca) (.slice none 0 0) N 0 _ Sp.nowh _ (by omega) HLF.out.l (SpL.nil _ _) (by omega) (by omega)).mono ?_
                  rintro e w12 ⟨v12, rfl, o12, u12⟩
                  have U12 : Hid (Upd [] w6 w12) := U8.out.trans (HUW.out.trans u12)
                  have O12 : Hid (SpO w12 w6.heap.size v12 (1 + N + 0) (wholeF S.size N (lastF fl fm c) Sp.nowh)) := SpO.mono o12 (by have := U8.out.size; have := HUW.out.size; omega)
                  clear o12 u12
                  go_wp2_with fail
                  go_roundg gm
                  case measure => omega
                  case rel => exact ⟨U12.out, Or.inr ⟨c, fl, fm, rfl, HK.out, HL.out, HMM.out, O12.out⟩⟩
    · subst e2
      obtain ⟨f, h3, h4⟩ := HS.out.2.2.2 K fl fm hK hl hm
      rw [HS.out.2.1] at h3; cases h3

theorem turned_any (a s : ByteArray) (w : World) : Calls Try.prog 5 #[.string a, .string s] w fun e w' => e = .returned (.bool true) ∧ Upd [] w w' := by
  cases hr2 : Sp.read a with
  | error f => obtain ⟨ea, aa⟩ := f; exact turned_err a s ea aa w hr2
  | ok v =>
    obtain ⟨ta, na⟩ := v
    obtain ⟨A, rfl⟩ : ∃ A, a = str A := ⟨_, (Sp.str_of a).symm⟩
    have ra := ReadT.of hr2
    rcases Sp.turned_read hr2 with ⟨e1, a1, h1, h2⟩ | h1
    · exact turned_lim A s ta na e1 a1 w hr2 h1 h2
    · rw [Sp.renT_zero] at h1
      by_cases hs : (cutS s 40).size = 0
      · obtain ⟨g, h3, h4⟩ := turned_e (ta := ta) (n := na.toNat) hs Sp.nowh
        exact turned_empty A s ta _ na g w hr2 h1 hs h3 h4
      · have hs' : 0 < (cutS s 40).size := by omega
        have key := And.intro (fun h => turned_0 (ta := ta) hs' h) (fun K fl fm h2 h3 h4 => turned_1 (K := K) (fl := fl) (fm := fm) ra hs' h2 h3 h4 Sp.nowh)
        cases h3 : wholeS (Sp.turnedT ta) (cutS s 40) with
        | some fc => exact turned_yes A s ta _ na fc w hr2 h1 hs' h3 key
        | none => exact turned_no A s ta _ na w hr2 h1 hs' h3 key
end Go.Proofs.Ytcpfpnjkfahjcaa
