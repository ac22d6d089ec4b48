import Derived.Test.YtcpfpnjkfahjcaaH04
import Derived.Test.YtcpfpnjkfahjcaaH01
/- What stands at a place of a text, and how it is read: no program is named here. -/
set_option linter.unusedSimpArgs false
set_option linter.unusedVariables false
namespace Go.Proofs.Ytcpfpnjkfahjcaa
namespace Sp

/-- These bytes stand here. -/
def Stands (s : ByteArray) (i : Nat) (l : List UInt8) : Prop := i + l.length ≤ s.size ∧ ∀ k x, l[k]? = some x → byteAt s (i + k) = (x.toNat : Int)
theorem Stands.of (P Q R : List UInt8) {l : List UInt8} {i : Nat} (h : l = P ++ Q ++ R) (hi : P.length = i) : Stands (str l) i Q := by
  subst h hi
  refine ⟨by rw [str_size]; simp <;> omega, fun k x hk => byteAt_str _ _ _ ?_⟩
  have hl : k < Q.length := by
    rcases Nat.lt_or_ge k Q.length with q | q
    · exact q
    · rw [List.getElem?_eq_none q] at hk; cases hk
  rw [List.append_assoc, List.getElem?_append_right (by omega), show P.length + k - P.length = k by omega, List.getElem?_append_left hl, hk]
theorem Stands.append {s : ByteArray} {i : Nat} {l m : List UInt8} (h : Stands s i (l ++ m)) : Stands s i l ∧ Stands s (i + l.length) m := by
  obtain ⟨h1, h2⟩ := h
  rw [List.length_append] at h1
  refine ⟨⟨by omega, fun k x hk => h2 k x ?_⟩, by omega, fun k x hk => ?_⟩
  · have hl : k < l.length := by
      rcases Nat.lt_or_ge k l.length with q | q
      · exact q
      · rw [List.getElem?_eq_none q] at hk; cases hk
    rw [List.getElem?_append_left hl, hk]
  · have := h2 (l.length + k) x (by rw [List.getElem?_append_right (by omega), show l.length + k - l.length = k by omega, hk])
    rw [← this]; congr 1; omega
theorem Stands.cons {s : ByteArray} {i : Nat} {x : UInt8} {l : List UInt8} (h : Stands s i (x :: l)) : i < s.size ∧ byteAt s i = (x.toNat : Int) ∧ Stands s (i + 1) l := by
  have h1 := h.1
  rw [List.length_cons] at h1
  exact ⟨by omega, by have := h.2 0 x rfl; simpa using this, (Stands.append (l := [x]) h).2⟩
theorem Stands.is {s : ByteArray} {i : Nat} {x : UInt8} {l : List UInt8} (h : Stands s i (x :: l)) (c : Int) : isAt s i c = decide ((x.toNat : Int) = c) := is_at h.cons.2.1 h.cons.1

theorem u8_toNat {n : Int} (h0 : 0 ≤ n) (h : n ≤ 255) : ((u8 n).toNat : Int) = n := by
  unfold u8
  rw [UInt8.toNat_ofNat']
  omega
theorem hexB_is {n : Int} (h0 : 0 ≤ n) (h : n ≤ 15) : hex ((hexB n).toNat : Int) = n := by
  unfold hexB
  split
  · rw [u8_toNat (by omega) (by omega)]; unfold hex; rw [if_pos (by omega)]; omega
  · rw [u8_toNat (by omega) (by omega)]; unfold hex; rw [if_neg (by omega), if_pos (by omega)]; omega
theorem hexPair_st {s : ByteArray} {i : Nat} {c : Int} {l : List UInt8} (h : Stands s i (hexB (c / 16) :: hexB (c % 16) :: l)) (h0 : 0 ≤ c) (h1 : c ≤ 255) : hexPair s i = .ok (c, i + 2) := by
  obtain ⟨a1, a2, a3⟩ := h.cons
  obtain ⟨b1, b2, b3⟩ := a3.cons
  have e1 := hexB_is (n := c / 16) (by omega) (by omega)
  have e2 := hexB_is (n := c % 16) (by omega) (by omega)
  unfold hexPair
  rw [a2, b2, e1, e2, if_pos ⟨a1, by omega⟩, if_pos ⟨b1, by omega⟩]
  congr 2; omega
theorem escape_hex {s : ByteArray} {i : Nat} {c : Int} {l : List UInt8} (h : Stands s i (120 :: hexB (c / 16) :: hexB (c % 16) :: l)) (h0 : 0 ≤ c) (h1 : c ≤ 255) : escape s i = .ok (c, i + 3) := by
  obtain ⟨a1, a2, a3⟩ := h.cons
  unfold escape
  rw [if_pos a1, a2, if_neg (by decide), if_neg (by decide), if_pos (by decide), hexPair_st a3 h0 h1]
theorem byteBut_hex {s : ByteArray} {i : Nat} {c : Int} {l : List UInt8} (b : Bool) (h : Stands s i (92 :: 120 :: hexB (c / 16) :: hexB (c % 16) :: l)) (h0 : 0 ≤ c) (h1 : c ≤ 255) : byteBut b s i = .ok (c, i + 4) := by
  unfold byteBut
  rw [h.is 92, if_pos (by decide), escape_hex h.cons.2.2 h0 h1]
theorem byteBut_plain {s : ByteArray} {i : Nat} {x : UInt8} {l : List UInt8} (b : Bool) (h : Stands s i (x :: l)) (hx : (if b then listSign (x.toNat : Int) else sign (x.toNat : Int)) = false) : byteBut b s i = .ok ((x.toNat : Int), i + 1) := by
  have h92 : (x.toNat : Int) ≠ 92 := by
    intro q
    rw [q] at hx
    cases b <;> simp [listSign, sign] at hx
  unfold byteBut
  rw [h.is 92, if_neg (by simpa using h92), h.cons.2.1, if_pos ⟨h.cons.1, hx⟩]

theorem digitAt_st {s : ByteArray} {i : Nat} {n : Int} {l : List UInt8} (h : Stands s i (u8 (48 + n) :: l)) (h0 : 0 ≤ n) (h1 : n ≤ 9) : digitAt s i = true ∧ byteAt s i - 48 = n := by
  obtain ⟨a1, a2, a3⟩ := h.cons
  have := u8_toNat (n := 48 + n) (by omega) (by omega)
  rw [this] at a2
  refine ⟨?_, by omega⟩
  unfold digitAt
  rw [a2]
  simp [a1]; omega
theorem digs_len (n : Int) : (digs n).length = if 9 < n then 2 else 1 := by unfold digs; split <;> rfl
theorem digit_head {s : ByteArray} {i : Nat} {n : Int} {l : List UInt8} (h : Stands s i (digs n ++ l)) (h0 : 0 ≤ n) (h1 : n ≤ 20) : digitAt s i = true := by
  by_cases h9 : 9 < n
  · have e : digs n = [u8 (48 + n / 10), u8 (48 + n % 10)] := by unfold digs; rw [if_pos h9]
    rw [e] at h
    exact (digitAt_st (n := n / 10) h (by omega) (by omega)).1
  · have e : digs n = [u8 (48 + n)] := by unfold digs; rw [if_neg h9]
    rw [e] at h
    exact (digitAt_st (n := n) h (by omega) (by omega)).1
theorem digits_st {s : ByteArray} {i : Nat} {n : Int} {l : List UInt8} (h : Stands s i (digs n ++ l)) (h0 : 0 ≤ n) (h1 : n ≤ 20) (hd : digitAt s (i + (digs n).length) = false) : digits s i = (n, i + (digs n).length) := by
  unfold digits
  by_cases h9 : 9 < n
  · have e : digs n = [u8 (48 + n / 10), u8 (48 + n % 10)] := by unfold digs; rw [if_pos h9]
    rw [e] at h ⊢
    have d1 := digitAt_st (n := n / 10) h (by omega) (by omega)
    have d2 := digitAt_st (n := n % 10) h.cons.2.2 (by omega) (by omega)
    rw [d1.2, d2.2, if_pos ⟨by omega, d2.1⟩]
    show (_, _) = (_, _)
    rw [show 10 * (n / 10) + n % 10 = n by omega]; rfl
  · have e : digs n = [u8 (48 + n)] := by unfold digs; rw [if_neg h9]
    rw [e] at h hd ⊢
    have d1 := digitAt_st (n := n) h (by omega) (by omega)
    have hd' : digitAt s (i + 1) = false := hd
    rw [d1.2, hd', if_neg (by simp)]
    rfl
theorem number_st {s : ByteArray} {i : Nat} {n m : Int} {l : List UInt8} (h : Stands s i (digs n ++ l)) (h0 : 0 ≤ n) (h1 : n ≤ 20) (hm : m ≤ n) (hd : digitAt s (i + (digs n).length) = false) : number m s i = .ok (n, i + (digs n).length) := by
  unfold number
  rw [digit_head h h0 h1, if_pos rfl, digits_st h h0 h1 hd, if_neg (show ¬ (n > 20 ∨ n < m) by omega)]
theorem digit_no {s : ByteArray} {i : Nat} {x : UInt8} {l : List UInt8} (h : Stands s i (x :: l)) (hx : (x.toNat : Int) < 48 ∨ 57 < (x.toNat : Int)) : digitAt s i = false := by
  obtain ⟨a1, a2, a3⟩ := h.cons
  unfold digitAt
  rw [a2]
  simp; omega
/-- A count in braces with both numbers. -/
theorem bounds_two {s : ByteArray} {i : Nat} {m n : Int} {l : List UInt8} (h : Stands s i (digs m ++ 44 :: (digs n ++ 125 :: l))) (h0 : 0 ≤ m) (h1 : m ≤ n) (h2 : n ≤ 20) : bounds s i = .ok (m, n, i + (digs m).length + 1 + (digs n).length + 1) := by
  obtain ⟨a1, a2⟩ := h.append
  obtain ⟨b1, b2, b3⟩ := a2.cons
  obtain ⟨c1, c2⟩ := b3.append
  have hn1 : number 0 s i = .ok (m, i + (digs m).length) := number_st h h0 (by omega) h0 (digit_no a2 (Or.inl (by decide)))
  have hn2 : number m s (i + (digs m).length + 1) = .ok (n, i + (digs m).length + 1 + (digs n).length) := number_st b3 (by omega) h2 h1 (digit_no c2 (Or.inr (by decide)))
  have hdg : digitAt s (i + (digs m).length + 1) = true := digit_head b3 (by omega) h2
  unfold bounds
  rw [hn1]
  simp only
  rw [a2.is 44, if_pos (by decide), hdg, if_pos rfl, hn2]
  simp only
  unfold need
  rw [c2.is 125, if_pos (by decide)]
theorem count_brace {s : ByteArray} {i : Nat} {m n : Int} {l : List UInt8} (h : Stands s i (123 :: (digs m ++ 44 :: (digs n ++ 125 :: l)))) (h0 : 0 ≤ m) (h1 : m ≤ n) (h2 : n ≤ 20) : count s i = .ok (m, n, i + 1 + (digs m).length + 1 + (digs n).length + 1) := by
  unfold count
  rw [h.is 42, if_neg (by decide), h.is 43, if_neg (by decide), h.is 63, if_neg (by decide), h.is 123, if_pos (by decide), bounds_two h.cons.2.2 h0 h1 h2]
end Sp
end Go.Proofs.Ytcpfpnjkfahjcaa

/- Groups of one byte with counts: reading and what they match: no program is named here. -/
set_option linter.unusedSimpArgs false
set_option linter.unusedVariables false
namespace Go.Proofs.Ytcpfpnjkfahjcaa
namespace Sp

theorem choice_one {u : ByteArray} {k : Nat} {x y : At} {t : Tr} (h : row (choice u k) u (8 - k) x = .ok (t, y)) (hy : isAt u y.i 124 = false) : choice u (k + 1) x = .ok (choiceT [t], y) := by
  unfold choice rows
  rw [h]; simp only; rw [hy]; rfl
theorem row_q3 {f : At → Res (Tr × At)} {u : ByteArray} {d : Nat} {x y z v : At} {t t' t'' : Tr} (h1 : over u x.i = false) (h2 : part f u d x = .ok (t, y)) (h3 : over u y.i = false) (h4 : part f u d y = .ok (t', z)) (h5 : over u z.i = false) (h6 : part f u d z = .ok (t'', v)) (h7 : over u v.i = true) (hz : 3 ≤ u.size) : row f u d x = .ok (rowT [t, t', t''], v) := by
  obtain ⟨k, hk⟩ : ∃ z, u.size = z + 3 := ⟨u.size - 3, by omega⟩
  unfold row
  rw [hk, parts, if_neg (by rw [h1]; decide), h2]
  simp only
  rw [parts, if_neg (by rw [h3]; decide), h4]
  simp only
  rw [parts, if_neg (by rw [h5]; decide), h6]
  simp only
  rw [parts, if_pos h7]; rfl
def xL (m n : Int) : Lab := { blank with kind := 0, byte := 120, set := fun c => c == 120, min := m, max := n }
def gL (k : Nat) : Lab := { blank with kind := 3, told := true, num := k }
def gx (k : Nat) (m n : Int) : Tr := ⟨gL k, [choiceT [rowT [⟨xL m n, []⟩]]]⟩
theorem over_is' {u : ByteArray} {i : Nat} {c : Int} (h : byteAt u i = c) (hi : i < u.size) (h1 : c ≠ 124) (h2 : c ≠ 41) : over u i = false := by
  unfold over; rw [is_at h hi, is_at h hi]; simp [h1, h2]; omega
theorem over_shut {u : ByteArray} {i : Nat} (h : byteAt u i = 41) (hi : i < u.size) : over u i = true := by
  unfold over; rw [is_at h hi, is_at h hi]; simp
/-- One byte in a group, with a count. -/
theorem xgroup {s : ByteArray} {i j t : Nat} {m n : Int} (h1 : Stands s i [40, 120]) (hc : count s (i + 2) = .ok (m, n, j)) (hj : byteAt s j = 41) (hjz : j < s.size) (ht : t < 9) : atom (choice s 8) s 0 ⟨i, t⟩ = .ok (gx (t + 1) m n, ⟨j + 1, t + 1⟩) := by
  have h2 := h1.cons.2.2
  have hz : i + 1 < s.size := h2.cons.1
  have o1 : over s (i + 1) = false := over_is' h2.cons.2.1 hz (by decide) (by decide)
  have o2 : over s j = true := over_shut hj hjz
  have ha : atom (choice s 7) s 1 ⟨i + 1, (t : Int) + 1⟩ = .ok (⟨{ blank with kind := 0, byte := 120, set := fun c => c == 120 }, []⟩, ⟨i + 2, (t : Int) + 1⟩) := by
    unfold atom
    simp only
    rw [h2.is 40, if_neg (by decide), h2.is 91, if_neg (by decide), h2.is 46, if_neg (by decide), byteBut_plain false h2 (by decide)]
    rfl
  have hp : part (choice s 7) s 1 ⟨i + 1, (t : Int) + 1⟩ = .ok (⟨xL m n, []⟩, ⟨j, (t : Int) + 1⟩) := by
    unfold part; rw [ha]; simp only; rw [hc]; rfl
  have hr : row (choice s 7) s 1 ⟨i + 1, (t : Int) + 1⟩ = .ok (rowT [⟨xL m n, []⟩], ⟨j, (t : Int) + 1⟩) := row_q1 o1 hp o2 (by omega)
  have hch : choice s 8 ⟨i + 1, (t : Int) + 1⟩ = .ok (choiceT [rowT [⟨xL m n, []⟩]], ⟨j, (t : Int) + 1⟩) := choice_one hr (by rw [is_at hj hjz]; decide)
  unfold atom
  simp only
  rw [h1.is 40, if_pos (by decide)]
  unfold group head
  simp only
  rw [if_neg (by omega), h2.is 63, if_neg (by decide), if_neg (by omega)]
  simp only
  rw [hch]
  simp only
  unfold need
  rw [is_at hj hjz, if_pos (by decide)]
  simp only
  have e : ((t : Int) + 1).toNat = t + 1 := by omega
  rw [e]
  rfl
theorem part_none {f : At → Res (Tr × At)} {u : ByteArray} {d : Nat} {x : At} {k : Nat} {m n : Int} {p : Nat} {c : Int} (ha : atom f u d x = .ok (gx k m n, ⟨p, c⟩)) (hc : count u p = .ok (-1, 0, p)) : part f u d x = .ok (gx k m n, ⟨p, c⟩) := by
  unfold part; rw [ha]; simp only; rw [hc]; rfl

def countedS (m1 n1 m2 n2 : Int) : List UInt8 := [40, 120, 123] ++ digs m1 ++ [44] ++ digs n1 ++ [125, 41, 40, 120, 123] ++ digs m2 ++ [44] ++ digs n2 ++ [125, 41, 40, 120, 42, 41]
def countedT (m1 n1 m2 n2 : Int) : Tr := choiceT [rowT [gx 1 m1 n1, gx 2 m2 n2, gx 3 0 (-1)]]
theorem counted_choice (m1 n1 m2 n2 : Int) (h1 : 0 ≤ m1) (h2 : m1 ≤ n1) (h3 : n1 ≤ 20) (h4 : 0 ≤ m2) (h5 : m2 ≤ n2) (h6 : n2 ≤ 20) : choice (str (countedS m1 n1 m2 n2)) 9 ⟨0, 0⟩ = .ok (countedT m1 n1 m2 n2, ⟨(countedS m1 n1 m2 n2).length, 3⟩) := by
  generalize hu : str (countedS m1 n1 m2 n2) = u
  generalize ha : (digs m1).length = a
  generalize hb : (digs n1).length = b
  generalize hc : (digs m2).length = c
  generalize hd : (digs n2).length = d
  have hz : u.size = 16 + a + b + c + d := by rw [← hu, str_size]; simp [countedS]; omega
  have hl : (countedS m1 n1 m2 n2).length = 16 + a + b + c + d := by simp [countedS]; omega
  rw [hl]
  have s0 : Stands u 0 ([40, 120, 123] ++ digs m1 ++ [44] ++ digs n1 ++ [125, 41, 40, 120, 123] ++ digs m2 ++ [44] ++ digs n2 ++ [125, 41, 40, 120, 42, 41]) := by
    rw [← hu]; exact Stands.of [] _ [] (by simp [countedS]) rfl
  have t1 : Stands u 0 [40, 120] := by rw [← hu]; exact Stands.of [] _ (123 :: (digs m1 ++ [44] ++ digs n1 ++ [125, 41, 40, 120, 123] ++ digs m2 ++ [44] ++ digs n2 ++ [125, 41, 40, 120, 42, 41])) (by simp [countedS]) rfl
  have t2 : Stands u 2 (123 :: (digs m1 ++ 44 :: (digs n1 ++ 125 :: [41]))) := by rw [← hu]; exact Stands.of [40, 120] _ ([40, 120, 123] ++ digs m2 ++ [44] ++ digs n2 ++ [125, 41, 40, 120, 42, 41]) (by simp [countedS]) rfl
  have t3 : Stands u (a + b + 5) (41 :: [40, 120]) := by rw [← hu]; exact Stands.of ([40, 120, 123] ++ digs m1 ++ [44] ++ digs n1 ++ [125]) _ ([123] ++ digs m2 ++ [44] ++ digs n2 ++ [125, 41, 40, 120, 42, 41]) (by simp [countedS]) (by simp; omega)
  have t4 : Stands u (a + b + 8) (123 :: (digs m2 ++ 44 :: (digs n2 ++ 125 :: [41]))) := by rw [← hu]; exact Stands.of ([40, 120, 123] ++ digs m1 ++ [44] ++ digs n1 ++ [125, 41, 40, 120]) _ [40, 120, 42, 41] (by simp [countedS]) (by simp; omega)
  have t5 : Stands u (a + b + c + d + 11) (41 :: [40, 120, 42, 41]) := by rw [← hu]; exact Stands.of ([40, 120, 123] ++ digs m1 ++ [44] ++ digs n1 ++ [125, 41, 40, 120, 123] ++ digs m2 ++ [44] ++ digs n2 ++ [125]) _ [] (by simp [countedS]) (by simp; omega)
  have c1 := count_brace t2 h1 h2 h3
  rw [ha, hb, show 2 + 1 + a + 1 + b + 1 = a + b + 5 by omega] at c1
  have g1 := xgroup (t := 0) t1 c1 t3.cons.2.1 t3.cons.1 (by omega)
  have c2 := count_brace t4 h4 h5 h6
  rw [hc, hd, show a + b + 8 + 1 + c + 1 + d + 1 = a + b + c + d + 11 by omega] at c2
  have t3' : Stands u (a + b + 6) [40, 120] := t3.cons.2.2
  have g2 := xgroup (t := 1) t3' (by rw [show a + b + 6 + 2 = a + b + 8 by omega]; exact c2) t5.cons.2.1 t5.cons.1 (by omega)
  have t6 : Stands u (a + b + c + d + 12) [40, 120, 42, 41] := t5.cons.2.2
  have t7 : Stands u (a + b + c + d + 14) [42, 41] := t6.cons.2.2.cons.2.2
  have c3 : count u (a + b + c + d + 12 + 2) = .ok (0, -1, a + b + c + d + 15) := by
    rw [show a + b + c + d + 12 + 2 = a + b + c + d + 14 by omega, count_star (by rw [t7.is 42]; decide)]
  have t8 : Stands u (a + b + c + d + 15) [41] := t7.cons.2.2
  have g3 := xgroup (t := 2) (i := a + b + c + d + 12) ⟨by have := t6.1; simp at this ⊢; omega, fun k x hk => t6.2 k x (by match k, hk with | 0, hk => exact hk | 1, hk => exact hk | k + 2, hk => simp at hk)⟩ c3 t8.cons.2.1 t8.cons.1 (by omega)
  have p1 := part_none g1 (count_no (by rw [t3'.is]; decide) (by rw [t3'.is]; decide) (by rw [t3'.is]; decide) (by rw [t3'.is]; decide))
  have p2 := part_none g2 (count_no (by rw [t6.is]; decide) (by rw [t6.is]; decide) (by rw [t6.is]; decide) (by rw [t6.is]; decide))
  have he : u.size = a + b + c + d + 15 + 1 := by omega
  have p3 := part_none g3 (by rw [← he]; exact count_no (is_end (Nat.le_refl _)) (is_end (Nat.le_refl _)) (is_end (Nat.le_refl _)) (is_end (Nat.le_refl _)))
  rw [← he] at p3
  have r := row_q3 (over_no t1.cons.2.1 t1.cons.1) p1 (over_no t3'.cons.2.1 t3'.cons.1) p2 (over_no t6.cons.2.1 t6.cons.1) p3 (over_end (Nat.le_refl _)) (by omega)
  have := choice_one (k := 8) r (is_end (Nat.le_refl _))
  rw [show 16 + a + b + c + d = u.size by omega]
  exact this
end Sp
end Go.Proofs.Ytcpfpnjkfahjcaa

/- What groups of one byte with counts match: no program is named here. -/
set_option linter.unusedSimpArgs false
set_option linter.unusedVariables false
namespace Go.Proofs.Ytcpfpnjkfahjcaa
namespace Sp

theorem counted_size (m1 n1 m2 n2 : Int) (h1 : 0 ≤ m1) (h2 : m1 ≤ n1) (h3 : n1 ≤ 20) (h4 : 0 ≤ m2) (h5 : m2 ≤ n2) (h6 : n2 ≤ 20) : size (countedT m1 n1 m2 n2) ≤ 60 := by
  have hx : ∀ m n : Int, 0 ≤ m → m ≤ n → n ≤ 20 → sizes 0 [(⟨xL m n, []⟩ : Tr)] ≤ 20 ∧ 0 ≤ sizes 0 [(⟨xL m n, []⟩ : Tr)] := fun m n a b c => by
    simp only [sizes]
    unfold sz1 szB xL
    simp [blank]
    rw [if_neg (by omega), if_neg (by omega)]
    omega
  have hy : sizes 0 [(⟨xL 0 (-1), []⟩ : Tr)] ≤ 20 ∧ 0 ≤ sizes 0 [(⟨xL 0 (-1), []⟩ : Tr)] := by
    simp only [sizes]
    unfold sz1 szB xL
    simp [blank]
    decide
  have hg : ∀ (k : Nat) (m n : Int) (acc : Int), (sizes 0 [(⟨xL m n, []⟩ : Tr)] ≤ 20 ∧ 0 ≤ sizes 0 [(⟨xL m n, []⟩ : Tr)]) → 0 ≤ acc → ∀ r, ∃ acc', sizes acc (gx k m n :: r) = sizes acc' r ∧ 0 ≤ acc' ∧ acc' ≤ acc + 20 := fun k m n acc hh ha r => by
    unfold gx choiceT rowT
    rw [sizes, sizes, sizes, sizes, sizes]
    have e : sz1 { blank with kind := 5 } (sizes (szB { blank with kind := 5 }) [⟨xL m n, []⟩]) = sizes 0 [(⟨xL m n, []⟩ : Tr)] := by
      unfold sz1 szB; simp [blank]
    rw [e]
    refine ⟨_, rfl, ?_, ?_⟩ <;> (unfold sz1 szB gL; simp [blank]; omega)
  obtain ⟨a1, e1, l1, u1⟩ := hg 1 m1 n1 0 (hx m1 n1 h1 h2 h3) (by omega) [gx 2 m2 n2, gx 3 0 (-1)]
  obtain ⟨a2, e2, l2, u2⟩ := hg 2 m2 n2 a1 (hx m2 n2 h4 h5 h6) l1 [gx 3 0 (-1)]
  obtain ⟨a3, e3, l3, u3⟩ := hg 3 0 (-1) a2 hy l2 []
  have key : sizes 0 [gx 1 m1 n1, gx 2 m2 n2, gx 3 0 (-1)] ≤ 60 := by
    rw [e1, e2, e3, sizes]; omega
  have nn : 0 ≤ sizes 0 [gx 1 m1 n1, gx 2 m2 n2, gx 3 0 (-1)] := by rw [e1, e2, e3, sizes]; exact l3
  unfold countedT choiceT rowT size
  rw [sizes, sizes]
  have e : sz1 { blank with kind := 5 } (sizes (szB { blank with kind := 5 }) [gx 1 m1 n1, gx 2 m2 n2, gx 3 0 (-1)]) = sizes 0 [gx 1 m1 n1, gx 2 m2 n2, gx 3 0 (-1)] := by
    unfold sz1 szB; simp [blank]
  rw [e]
  unfold sz1 szB; simp [blank]; omega
theorem counted_read (m1 n1 m2 n2 : Int) (h1 : 0 ≤ m1) (h2 : m1 ≤ n1) (h3 : n1 ≤ 20) (h4 : 0 ≤ m2) (h5 : m2 ≤ n2) (h6 : n2 ≤ 20) : read (str (countedS m1 n1 m2 n2)) = .ok (countedT m1 n1 m2 n2, 3) := by
  have hz : (str (countedS m1 n1 m2 n2)).size = (countedS m1 n1 m2 n2).length := str_size _
  have hl : (countedS m1 n1 m2 n2).length ≤ 200 := by
    have := digs_le m1; have := digs_le n1; have := digs_le m2; have := digs_le n2
    simp [countedS]; omega
  unfold read
  rw [if_neg (by omega), counted_choice m1 n1 m2 n2 h1 h2 h3 h4 h5 h6]
  simp only
  rw [if_neg (by omega), if_neg (by have := counted_size m1 n1 m2 n2 h1 h2 h3 h4 h5 h6; omega)]

/-! What they match in a text of this byte alone. -/
structure AllX (s : ByteArray) (z : Nat) : Prop where
  size : s.size = z
  byte : ∀ i, i < z → byteAt s i = 120
theorem unit_turns {t : Sem} {z : Nat} (ht : ∀ i k, t.m i k = (k == i + 1 && decide (i < z))) : ∀ (f m : Nat) (n : Option Nat) (i j : Nat), m + (j - i) < f → j ≤ z → (∀ N, n = some N → m ≤ N) →
    (turnsM t f m n i j = true ↔ i ≤ j ∧ m ≤ j - i ∧ ∀ N, n = some N → j - i ≤ N)
  | 0, _, _, _, _, h, _, _ => by omega
  | f + 1, m + 1, n, i, j, h, hj, hn => by
    rw [turnsM, cutB_iff]
    have hn' : ∀ N, n.map (· - 1) = some N → m ≤ N := fun N hN => by
      cases n with
      | none => cases hN
      | some M => simp at hN; have := hn M rfl; omega
    constructor
    · rintro ⟨k, k1, k2, k3, k4⟩
      rw [ht] at k3
      simp at k3
      obtain ⟨rfl, k3⟩ := k3
      have := (unit_turns ht f m _ (i + 1) j (by omega) hj hn').mp k4
      refine ⟨by omega, by omega, fun N hN => ?_⟩
      subst hN
      have h9 := this.2.2 (N - 1) rfl
      have := hn N rfl
      omega
    · rintro ⟨k1, k2, k3⟩
      refine ⟨i + 1, by omega, by omega, by rw [ht]; simp; omega, ?_⟩
      refine (unit_turns ht f m _ (i + 1) j (by omega) hj hn').mpr ⟨by omega, by omega, fun N hN => ?_⟩
      cases n with
      | none => cases hN
      | some M => simp at hN; have := k3 M rfl; omega
  | f + 1, 0, n, i, j, h, hj, hn => by
    rw [turnsM, Bool.or_eq_true, Bool.and_eq_true, cutB_iff]
    constructor
    · rintro (h1 | ⟨h1, k, k1, k2, k3, k4⟩)
      · simp at h1; subst h1; exact ⟨Nat.le_refl _, by omega, fun N _ => by omega⟩
      · rw [ht] at k3
        simp at k3
        obtain ⟨rfl, k3⟩ := k3
        have := (unit_turns ht f 0 _ (i + 1) j (by omega) hj (fun _ _ => Nat.zero_le _)).mp k4
        refine ⟨by omega, by omega, fun N hN => ?_⟩
        subst hN
        have h9 := this.2.2 (N - 1) rfl
        simp at h1
        omega
    · rintro ⟨k1, k2, k3⟩
      by_cases h1 : i = j
      · left; simp [h1]
      · right
        refine ⟨?_, i + 1, by omega, by omega, by rw [ht]; simp; omega, (unit_turns ht f 0 _ (i + 1) j (by omega) hj (fun _ _ => Nat.zero_le _)).mpr ⟨by omega, by omega, fun N hN => ?_⟩⟩
        · cases n with
          | none => rfl
          | some M => have := k3 M rfl; simp; omega
        · cases n with
          | none => cases hN
          | some M => simp at hN; have := k3 M rfl; omega
theorem x_unit {s : ByteArray} {z : Nat} (h : AllX s z) (m n : Int) : ∀ i k, (bareSem s (xL m n) []).m i k = (k == i + 1 && decide (i < z)) := fun i k => by
  unfold bareSem
  rw [if_pos (by show (0 : Nat) ≤ 2; omega)]
  show one s (fits (xL m n)) i k = _
  unfold one
  rw [h.size]
  by_cases hi : i < z
  · rw [h.byte i hi]
    have : fits (xL m n) (120 : Int).toNat = true := by unfold fits xL; rfl
    rw [this]; simp
  · simp [hi]
/-- May so many be? -/
def Fit (m n : Int) (d : Nat) : Prop := m ≤ d ∧ (n < 0 ∨ (d : Int) ≤ n)
theorem gx_m {s : ByteArray} {z : Nat} (h : AllX s z) (k : Nat) {m n : Int} (h0 : 0 ≤ m) (hn : n < 0 ∨ m ≤ n) (i j : Nat) (hj : j ≤ z) : (sem s (gx k m n)).m i j = true ↔ i ≤ j ∧ Fit m n (j - i) := by
  have e1 : (sem s (gx k m n)).m i j = choiceM [sem s (choiceT [rowT [⟨xL m n, []⟩]])] i j := by
    unfold sem node gx bareSem gL
    simp [blank]
    rw [sems_cons, sems_nil]; rfl
  rw [e1, choice1_m, choiceT_sem, sems_cons, sems_nil]
  show choiceM _ i j = true ↔ _
  rw [choice1_m, rowT1_m]
  have e2 : (sem s ⟨xL m n, []⟩).m i j = turnsM (bareSem s (xL m n) []) (m.toNat + (j - i) + 1) m.toNat (most n) i j := by
    unfold sem node
    rw [if_neg (by show ¬ m < 0; omega), sems_nil]
    rfl
  rw [e2, unit_turns (x_unit h m n) _ _ _ _ _ (by omega) hj (fun N hN => by unfold most at hN; split at hN; cases hN; cases hN; omega)]
  unfold Fit most
  constructor
  · rintro ⟨a, b, c⟩
    refine ⟨a, by omega, ?_⟩
    by_cases q : n < 0
    · exact Or.inl q
    · right; have := c n.toNat (by rw [if_neg q]); omega
  · rintro ⟨a, b, c⟩
    refine ⟨a, by omega, fun N hN => ?_⟩
    split at hN
    · cases hN
    · cases hN; omega
theorem x_g (s : ByteArray) (m n : Int) (i j : Nat) : (sem s ⟨xL m n, []⟩).g i j = [] := by
  have h : AllG (fun _ => False) (sem s ⟨xL m n, []⟩) := by
    unfold sem
    rw [sems_nil]
    exact node_all s _ (fun x hx => by cases hx) (fun h => by cases h)
  cases hg : (sem s ⟨xL m n, []⟩).g i j with
  | nil => rfl
  | cons x l => exact (h i j x (by rw [hg]; exact List.mem_cons_self ..)).elim
theorem gx_g {s : ByteArray} {k : Nat} {m n : Int} {i j : Nat} (hm : (sem s (gx k m n)).m i j = true) : (sem s (gx k m n)).g i j = [(k, i, j)] := by
  have e1 : sem s (gx k m n) = ⟨choiceM [sem s (choiceT [rowT [⟨xL m n, []⟩]])], fun i j => [(k, i, j)] ++ choiceG [sem s (choiceT [rowT [⟨xL m n, []⟩]])] i j⟩ := by
    unfold sem node gx bareSem gL
    simp [blank]
    rw [sems_cons, sems_nil]; exact ⟨rfl, rfl⟩
  rw [e1] at hm ⊢
  have hm' : choiceM [sem s (choiceT [rowT [⟨xL m n, []⟩]])] i j = true := hm
  rw [choice1_m, choiceT_sem, sems_cons, sems_nil] at hm'
  have hm2 : choiceM [sem s (rowT [⟨xL m n, []⟩])] i j = true := hm'
  have hm3 := hm2
  rw [choice1_m, rowT1_m] at hm3
  show [(k, i, j)] ++ choiceG _ i j = _
  rw [choice1_g _ i j (by rw [choiceT_sem, sems_cons, sems_nil]; exact hm2), choiceT_sem, sems_cons, sems_nil]
  show [(k, i, j)] ++ choiceG _ i j = _
  rw [choice1_g _ i j (by rw [rowT1_m]; exact hm3), rowT1_g _ _ i j hm3, x_g]; rfl
end Sp
end Go.Proofs.Ytcpfpnjkfahjcaa

/- What a row of three groups of one byte matches: no program is named here. -/
set_option linter.unusedSimpArgs false
set_option linter.unusedVariables false
namespace Go.Proofs.Ytcpfpnjkfahjcaa
namespace Sp

theorem sems3 (s : ByteArray) (a b c : Tr) : sems s [a, b, c] = [sem s a, sem s b, sem s c] := by
  rw [sems_cons, sems_cons, sems_cons, sems_nil]
theorem tail_m {s : ByteArray} {z : Nat} (h : AllX s z) {m2 n2 : Int} (h4 : 0 ≤ m2) (h5 : m2 ≤ n2) (k : Nat) (hk : k ≤ z) : rowM [sem s (gx 2 m2 n2), sem s (gx 3 0 (-1))] k z = true ↔ m2 ≤ ((z - k : Nat) : Int) := by
  rw [row2_m _ _ (sem_le s _), cutB_iff]
  constructor
  · rintro ⟨c, c1, c2, c3, c4⟩
    have := ((gx_m h 2 h4 (Or.inr h5) k c c2).mp c3).2.1
    omega
  · intro q
    refine ⟨k + m2.toNat, by omega, by omega, (gx_m h 2 h4 (Or.inr h5) k _ (by omega)).mpr ⟨by omega, ?_, ?_⟩, (gx_m h 3 (by omega) (Or.inl (by omega)) _ z (Nat.le_refl _)).mpr ⟨by omega, ?_, ?_⟩⟩
    · omega
    · right; omega
    · omega
    · left; omega
theorem counted_m {s : ByteArray} {z : Nat} (h : AllX s z) {m1 n1 m2 n2 : Int} (h1 : 0 ≤ m1) (h2 : m1 ≤ n1) (h4 : 0 ≤ m2) (h5 : m2 ≤ n2) : (sem s (countedT m1 n1 m2 n2)).m 0 z = true ↔ m1 + m2 ≤ z := by
  unfold countedT
  rw [choiceT_sem, sems_cons, sems_nil]
  show choiceM _ 0 z = true ↔ _
  rw [choice1_m, rowT_sem, sems3]
  show rowM _ 0 z = true ↔ _
  rw [rowM, cutB_iff]
  constructor
  · rintro ⟨c, c1, c2, c3, c4⟩
    have := ((gx_m h 1 h1 (Or.inr h2) 0 c c2).mp c3).2.1
    have := (tail_m h h4 h5 c c2).mp c4
    omega
  · intro q
    refine ⟨m1.toNat, by omega, by omega, (gx_m h 1 h1 (Or.inr h2) 0 _ (by omega)).mpr ⟨by omega, ?_, ?_⟩, (tail_m h h4 h5 _ (by omega)).mpr (by omega)⟩
    · omega
    · right; omega
theorem counted_g {s : ByteArray} {z : Nat} (h : AllX s z) {m1 n1 m2 n2 : Int} (h1 : 0 ≤ m1) (h2 : m1 ≤ n1) (h4 : 0 ≤ m2) (h5 : m2 ≤ n2) (hz : m1 + m2 ≤ z) {I J : Nat} (hI : (I : Int) = min n1 (z - m2)) (hJ : (J : Int) = I + min n2 (z - I)) : (sem s (countedT m1 n1 m2 n2)).g 0 z = [(1, 0, I), (2, I, J), (3, J, z)] := by
  have hm := (counted_m h h1 h2 h4 h5).mpr hz
  unfold countedT at hm ⊢
  rw [choiceT_sem, sems_cons, sems_nil] at hm ⊢
  have hm' : choiceM [sem s (rowT [gx 1 m1 n1, gx 2 m2 n2, gx 3 0 (-1)])] 0 z = true := hm
  rw [choice1_m] at hm'
  show choiceG _ 0 z = _
  rw [choice1_g _ 0 z hm', rowT_sem, sems3]
  show rowG _ 0 z = _
  have a1 : (sem s (gx 1 m1 n1)).m 0 I = true := (gx_m h 1 h1 (Or.inr h2) 0 I (by omega)).mpr ⟨by omega, by omega, Or.inr (by omega)⟩
  have g1 : greatest (fun k => (sem s (gx 1 m1 n1)).m 0 k && rowM [sem s (gx 2 m2 n2), sem s (gx 3 0 (-1))] k z) 0 z = some I := by
    refine greatest_is (by omega) (by omega) ?_ (fun m k1 k2 => ?_)
    · rw [a1, (tail_m h h4 h5 I (by omega)).mpr (by omega)]; rfl
    · cases hb : ((sem s (gx 1 m1 n1)).m 0 m && rowM [sem s (gx 2 m2 n2), sem s (gx 3 0 (-1))] m z) with
      | false => rfl
      | true =>
        exfalso
        rw [Bool.and_eq_true] at hb
        have q1 := ((gx_m h 1 h1 (Or.inr h2) 0 m k2).mp hb.1).2.2
        have q2 := (tail_m h h4 h5 m k2).mp hb.2
        omega
  have b1 : (sem s (gx 2 m2 n2)).m I J = true := (gx_m h 2 h4 (Or.inr h5) I J (by omega)).mpr ⟨by omega, by omega, Or.inr (by omega)⟩
  have c1 : (sem s (gx 3 0 (-1))).m J z = true := (gx_m h 3 (by omega) (Or.inl (by omega)) J z (Nat.le_refl _)).mpr ⟨by omega, by omega, Or.inl (by omega)⟩
  have g2 : greatest (fun k => (sem s (gx 2 m2 n2)).m I k && (sem s (gx 3 0 (-1))).m k z) I z = some J := by
    refine greatest_is (by omega) (by omega) ?_ (fun m k1 k2 => ?_)
    · rw [b1, c1]; rfl
    · cases hb : ((sem s (gx 2 m2 n2)).m I m && (sem s (gx 3 0 (-1))).m m z) with
      | false => rfl
      | true =>
        exfalso
        rw [Bool.and_eq_true] at hb
        have q1 := ((gx_m h 2 h4 (Or.inr h5) I m k2).mp hb.1).2.2
        omega
  rw [rowG, g1]
  simp only
  rw [row2_g _ _ (sem_le s _) I z J g2, gx_g a1, gx_g b1, gx_g c1]; rfl
theorem three_spans (I J z : Nat) (k : Nat) (hk : k < 4) : spansOf [(1, 0, I), (2, I, J), (3, J, z)] z k = [((0 : Int), (z : Int)), (0, (I : Int)), ((I : Int), (J : Int)), ((J : Int), (z : Int))].getD k (0, 0) := by
  rcases (by omega : k = 0 ∨ k = 1 ∨ k = 2 ∨ k = 3) with rfl | rfl | rfl | rfl <;> rfl
/-- So many of this byte. -/
def xs (n : Nat) : List UInt8 := List.replicate n 120
theorem xs_all (n : Nat) : AllX (str (xs n)) n := by
  refine ⟨by rw [str_size]; simp [xs], fun i hi => ?_⟩
  have h : Stands (str (xs n)) 0 (xs n) := Stands.of [] _ [] (by simp) rfl
  have := h.2 i 120 (by unfold xs; rw [List.getElem?_replicate]; simp [hi])
  rw [Nat.zero_add] at this; exact this
end Sp
end Go.Proofs.Ytcpfpnjkfahjcaa
