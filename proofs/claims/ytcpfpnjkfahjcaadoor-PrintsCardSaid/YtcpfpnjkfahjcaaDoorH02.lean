import Derived.Test.YtcpfpnjkfahjcaaDoorH01
/- Readings go on, and stay within the text: no program is named here. -/
set_option linter.unusedSimpArgs false
set_option linter.unusedVariables false
namespace Go.Proofs.YtcpfpnjkfahjcaaDoor
namespace Sp

theorem isAt_lt {s : ByteArray} {i : Nat} {c : Int} (h : isAt s i c = true) : i < s.size := by simp [isAt] at h; exact h.1
theorem need_ok {s : ByteArray} {i j : Nat} {c : Int} (h : need c s i = .ok j) : j = i + 1 ∧ i < s.size := by
  unfold need at h; split at h
  · rename_i q; cases h; exact ⟨rfl, isAt_lt q⟩
  · cases h

/-- A reading that goes on within the text. -/
def Good (s : ByteArray) (f : At → Res (Tr × At)) : Prop := ∀ x t y, f x = .ok (t, y) → x.i ≤ s.size → 0 ≤ x.t → x.t ≤ 9 → x.i ≤ y.i ∧ y.i ≤ s.size ∧ 0 ≤ y.t ∧ y.t ≤ 9

theorem head_ok {s : ByteArray} {d : Nat} {x : At} {k : Nat} {y : At} (h : head s d x = .ok (k, y)) (hi : x.i < s.size) (h0 : 0 ≤ x.t) (h9 : x.t ≤ 9) : x.i < y.i ∧ y.i ≤ s.size ∧ 0 ≤ y.t ∧ y.t ≤ 9 := by
  unfold head at h
  by_cases h1 : 8 ≤ d
  · rw [if_pos h1] at h; cases h
  rw [if_neg h1] at h
  by_cases h2 : isAt s (x.i + 1) 63 = true
  · rw [if_pos h2] at h
    cases hn : need 58 s (x.i + 2) with
    | error f => rw [hn] at h; cases h
    | ok j => rw [hn] at h; cases h; have := need_ok hn; simp; omega
  rw [if_neg h2] at h
  by_cases h3 : 9 ≤ x.t
  · rw [if_pos h3] at h; cases h
  rw [if_neg h3] at h; cases h; simp; omega

theorem group_good {s : ByteArray} {d : Nat} {sub : At → Res (Tr × At)} (hs : Good s sub) {x : At} {t : Tr} {y : At} (h : group sub s d x = .ok (t, y)) (hi : x.i < s.size) (h0 : 0 ≤ x.t) (h9 : x.t ≤ 9) : x.i < y.i ∧ y.i ≤ s.size ∧ 0 ≤ y.t ∧ y.t ≤ 9 ∧ t.lab.min = -1 ∧ t.lab.max = 0 := by
  unfold group at h
  cases hh : head s d x with
  | error f => rw [hh] at h; cases h
  | ok v =>
    obtain ⟨k, z⟩ := v
    rw [hh] at h
    have a := head_ok hh hi h0 h9
    cases hb : sub z with
    | error f => simp [hb] at h
    | ok v =>
      obtain ⟨t', u⟩ := v
      have b := hs z t' u hb a.2.1 a.2.2.1 a.2.2.2
      cases hn : need 41 s u.i with
      | error f => simp [hb, hn] at h
      | ok j => simp [hb, hn] at h; obtain ⟨rfl, rfl⟩ := h; have := need_ok hn; simp [blank]; omega

theorem hex15 {c : Int} (h : 0 ≤ hex c) : hex c ≤ 15 := by unfold hex at *; (repeat' split at h) <;> (repeat' split) <;> omega
theorem hexPair_in {s : ByteArray} {i j : Nat} {v : Int} (h : hexPair s i = .ok (v, j)) : i < j ∧ j ≤ s.size := by
  unfold hexPair at h; split at h
  · rename_i q; split at h
    · rename_i q'; cases h; exact ⟨by omega, by omega⟩
    · cases h
  · cases h
theorem escape_in {s : ByteArray} {i j : Nat} {v : Int} (h : escape s i = .ok (v, j)) : i < j ∧ j ≤ s.size := by
  unfold escape at h; repeat' split at h
  case isTrue.isFalse.isFalse.isTrue => have := hexPair_in h; omega
  all_goals cases h
  all_goals exact ⟨by omega, by omega⟩
theorem byteBut_in {l : Bool} {s : ByteArray} {i j : Nat} {v : Int} (h : byteBut l s i = .ok (v, j)) : i < j ∧ j ≤ s.size := by
  unfold byteBut at h; split at h
  · have := escape_in h; omega
  · by_cases q : i < s.size ∧ (if l then listSign (byteAt s i) else sign (byteAt s i)) = false
    · rw [if_pos q] at h; cases h; exact ⟨by omega, by omega⟩
    · rw [if_neg q] at h; cases h
theorem item_in {s : ByteArray} {i j : Nat} {a b : Int} (h : item s i = .ok (a, b, j)) : i < j ∧ j ≤ s.size := by
  unfold item at h
  cases h1 : byteBut true s i with
  | error f => simp [h1] at h
  | ok v =>
    obtain ⟨a', j'⟩ := v
    have g := byteBut_in h1
    simp only [h1] at h
    split at h
    · cases h2 : byteBut true s (j' + 1) with
      | error f => simp [h2] at h
      | ok v =>
        obtain ⟨b', k'⟩ := v
        have g' := byteBut_in h2
        simp only [h2] at h
        split at h
        · cases h
        · cases h; omega
    · cases h; omega
theorem items_in {s : ByteArray} : ∀ {n : Nat} {set : Nat → Bool} {i : Nat} {set' : Nat → Bool} {j : Nat}, items s n set i = .ok (set', j) → i < j ∧ j ≤ s.size
  | 0, _, _, _, _, h => by cases h
  | n + 1, set, i, set', j, h => by
    unfold items at h
    cases h1 : item s i with
    | error f => simp [h1] at h
    | ok v =>
      obtain ⟨a, b, j'⟩ := v
      have g := item_in h1
      simp only [h1] at h
      split at h
      · rename_i q; cases h; have := isAt_lt q; omega
      · have := items_in h; omega
theorem list_in {s : ByteArray} {i j : Nat} {t : Tr} (h : list s i = .ok (t, j)) : i < j ∧ j ≤ s.size ∧ t.lab.min = -1 ∧ t.lab.max = 0 := by
  unfold list at h
  simp only [] at h
  cases h1 : items s (s.size + 1) (fun _ => false) (if isAt s i 94 = true then i + 1 else i) with
  | error f => simp [h1] at h
  | ok v =>
    obtain ⟨set, k⟩ := v
    have g := items_in h1
    simp only [h1] at h
    cases h
    split at g <;> simp [blank] <;> omega

theorem atom_good {s : ByteArray} {d : Nat} {sub : At → Res (Tr × At)} (hs : Good s sub) {x : At} {t : Tr} {y : At} (h : atom sub s d x = .ok (t, y)) (h0 : 0 ≤ x.t) (h9 : x.t ≤ 9) : x.i < y.i ∧ y.i ≤ s.size ∧ 0 ≤ y.t ∧ y.t ≤ 9 ∧ t.lab.min = -1 ∧ t.lab.max = 0 := by
  unfold atom at h
  by_cases c1 : isAt s x.i 40 = true
  · rw [if_pos c1] at h; exact group_good hs h (isAt_lt c1) h0 h9
  rw [if_neg c1] at h
  by_cases c2 : isAt s x.i 91 = true
  · rw [if_pos c2] at h
    cases h1 : list s (x.i + 1) with
    | error f => simp [h1] at h
    | ok v => obtain ⟨t', j⟩ := v; simp [h1] at h; obtain ⟨rfl, rfl⟩ := h; have := list_in h1; simp; omega
  rw [if_neg c2] at h
  by_cases c3 : isAt s x.i 46 = true
  · rw [if_pos c3] at h; cases h; have := isAt_lt c3; simp [blank]; omega
  rw [if_neg c3] at h
  cases h1 : byteBut false s x.i with
  | error f => simp [h1] at h
  | ok v => obtain ⟨b, j⟩ := v; simp [h1] at h; obtain ⟨rfl, rfl⟩ := h; have := byteBut_in h1; simp [blank]; omega

theorem digits_in {s : ByteArray} {i : Nat} (h : digitAt s i = true) : i < (digits s i).2 ∧ (digits s i).2 ≤ s.size := by
  simp [digitAt] at h
  unfold digits; split
  · rename_i q; have := q.2; simp [digitAt] at this; simp; omega
  · simp; omega
theorem number_in {m : Int} {s : ByteArray} {i j : Nat} {v : Int} (h : number m s i = .ok (v, j)) : i < j ∧ j ≤ s.size := by
  unfold number at h; split at h
  · rename_i hd
    split at h
    · cases h
    · have e : digits s i = (v, j) := by simpa using h
      have := digits_in hd; rw [e] at this; exact this
  · cases h
theorem bounds_in {s : ByteArray} {i j : Nat} {m n : Int} (h : bounds s i = .ok (m, n, j)) : i < j ∧ j ≤ s.size := by
  unfold bounds at h
  cases h1 : number 0 s i with
  | error f => simp [h1] at h
  | ok v =>
    obtain ⟨m', j'⟩ := v
    have g := number_in h1
    simp only [h1] at h
    split at h
    · split at h
      · cases h2 : number m' s (j' + 1) with
        | error f => simp [h2] at h
        | ok v =>
          obtain ⟨n', k'⟩ := v
          have g' := number_in h2
          simp only [h2] at h
          cases h3 : need 125 s k' with
          | error f => simp [h3] at h
          | ok l => simp [h3] at h; have := need_ok h3; omega
      · cases h3 : need 125 s (j' + 1) with
        | error f => simp [h3] at h
        | ok l => simp [h3] at h; have := need_ok h3; omega
    · cases h3 : need 125 s j' with
      | error f => simp [h3] at h
      | ok l => simp [h3] at h; have := need_ok h3; omega
theorem count_in {s : ByteArray} {i j : Nat} {m n : Int} (h : count s i = .ok (m, n, j)) (hi : i ≤ s.size) : i ≤ j ∧ j ≤ s.size := by
  unfold count at h
  by_cases c1 : isAt s i 42 = true
  · rw [if_pos c1] at h; cases h; have := isAt_lt c1; omega
  rw [if_neg c1] at h
  by_cases c2 : isAt s i 43 = true
  · rw [if_pos c2] at h; cases h; have := isAt_lt c2; omega
  rw [if_neg c2] at h
  by_cases c3 : isAt s i 63 = true
  · rw [if_pos c3] at h; cases h; have := isAt_lt c3; omega
  rw [if_neg c3] at h
  by_cases c4 : isAt s i 123 = true
  · rw [if_pos c4] at h; have := bounds_in h; omega
  rw [if_neg c4] at h; cases h; omega
theorem part_good {s : ByteArray} {d : Nat} {sub : At → Res (Tr × At)} (hs : Good s sub) {x : At} {t : Tr} {y : At} (h : part sub s d x = .ok (t, y)) (h0 : 0 ≤ x.t) (h9 : x.t ≤ 9) : x.i < y.i ∧ y.i ≤ s.size ∧ 0 ≤ y.t ∧ y.t ≤ 9 := by
  unfold part at h
  cases h1 : atom sub s d x with
  | error f => simp [h1] at h
  | ok v =>
    obtain ⟨t', z⟩ := v
    have g := atom_good hs h1 h0 h9
    cases h2 : count s z.i with
    | error f => simp [h1, h2] at h
    | ok v => obtain ⟨m, n, j⟩ := v; simp [h1, h2] at h; obtain ⟨rfl, rfl⟩ := h; have := count_in h2 g.2.1; simp; omega
theorem parts_good {s : ByteArray} {d : Nat} {sub : At → Res (Tr × At)} (hs : Good s sub) : ∀ {n : Nat} {l : List Tr} {x : At} {l' : List Tr} {y : At}, parts sub s d n l x = .ok (l', y) → x.i ≤ s.size → 0 ≤ x.t → x.t ≤ 9 → x.i ≤ y.i ∧ y.i ≤ s.size ∧ 0 ≤ y.t ∧ y.t ≤ 9
  | 0, _, _, _, _, h, _, _, _ => by cases h
  | n + 1, l, x, l', y, h, hi, h0, h9 => by
    unfold parts at h
    split at h
    · cases h; omega
    · cases h1 : part sub s d x with
      | error f => simp [h1] at h
      | ok v =>
        obtain ⟨t', z⟩ := v
        have g := part_good hs h1 h0 h9
        simp only [h1] at h
        have := parts_good hs h g.2.1 g.2.2.1 g.2.2.2
        omega
theorem row_good {s : ByteArray} {d : Nat} {sub : At → Res (Tr × At)} (hs : Good s sub) : Good s (row sub s d) := by
  intro x t y h hi h0 h9
  unfold row at h
  cases h1 : parts sub s d (s.size + 1) [] x with
  | error f => simp [h1] at h
  | ok v => obtain ⟨l, z⟩ := v; simp [h1] at h; obtain ⟨rfl, rfl⟩ := h; exact parts_good hs h1 hi h0 h9
theorem rows_good {s : ByteArray} {d : Nat} {sub : At → Res (Tr × At)} (hs : Good s sub) : ∀ {n : Nat} {l : List Tr} {x : At} {l' : List Tr} {y : At}, rows sub s d n l x = .ok (l', y) → x.i ≤ s.size → 0 ≤ x.t → x.t ≤ 9 → x.i ≤ y.i ∧ y.i ≤ s.size ∧ 0 ≤ y.t ∧ y.t ≤ 9
  | 0, _, _, _, _, h, _, _, _ => by cases h
  | n + 1, l, x, l', y, h, hi, h0, h9 => by
    unfold rows at h
    cases h1 : row sub s d x with
    | error f => simp [h1] at h
    | ok v =>
      obtain ⟨t', z⟩ := v
      have g := row_good hs x t' z h1 hi h0 h9
      simp only [h1] at h
      split at h
      · rename_i q
        have := rows_good hs h (by have := isAt_lt q; simp; omega) g.2.2.1 g.2.2.2
        simp at this; omega
      · cases h; exact g
theorem choice_good (s : ByteArray) : ∀ k, Good s (choice s k)
  | 0 => by intro x t y h; cases h
  | k + 1 => by
    intro x t y h hi h0 h9
    unfold choice at h
    cases h1 : rows (choice s k) s (8 - k) (s.size + 1) [] x with
    | error f => simp [h1] at h
    | ok v => obtain ⟨l, z⟩ := v; simp [h1] at h; obtain ⟨rfl, rfl⟩ := h; exact rows_good (choice_good s k) h1 hi h0 h9
end Sp
end Go.Proofs.YtcpfpnjkfahjcaaDoor

/- The size of a pattern: no program is named here. -/
set_option linter.unusedSimpArgs false
set_option linter.unusedVariables false
namespace Go.Proofs.YtcpfpnjkfahjcaaDoor
namespace Sp

def sz1 (a : Lab) (n : Int) : Int :=
  if a.min < 0 then (if a.kind = 3 then max n 1 else n)
  else if a.max < 0 then min ((if a.kind = 3 then max n 1 else n) * max a.min 1) 1000000
  else min ((if a.kind = 3 then max n 1 else n) * a.max) 1000000
def szB (a : Lab) : Int := if a.kind ≤ 2 then 1 else 0
def sizes (acc : Int) : List Tr → Int
  | [] => acc
  | ⟨a, ks⟩ :: r => sizes (min (acc + sz1 a (sizes (szB a) ks)) 1000000) r
def size (t : Tr) : Int := sz1 t.lab (sizes (szB t.lab) t.kids)

theorem sizes_cons (acc : Int) (t : Tr) (r : List Tr) : sizes acc (t :: r) = sizes (min (acc + size t) 1000000) r := by
  obtain ⟨a, ks⟩ := t; rw [sizes]; rfl
theorem sizes_snoc (t : Tr) : ∀ (l : List Tr) (acc : Int), sizes acc (l ++ [t]) = min (sizes acc l + size t) 1000000
  | [], acc => by show sizes acc [t] = _; rw [sizes_cons, sizes, sizes]
  | u :: r, acc => by show sizes acc (u :: (r ++ [t])) = _; rw [sizes_cons, sizes_cons, sizes_snoc t r]

/-- What a label of a pattern that was read is. -/
structure LabOK (a : Lab) : Prop where
  kind : a.kind ≤ 5
  min0 : -1 ≤ a.min
  min1 : a.min ≤ 20
  max0 : -1 ≤ a.max
  max1 : a.max ≤ 20
  byte : a.kind = 0 → a.byte < 256 ∧ ∀ c, c < 256 → a.set c = (c == a.byte)

def TrsOK : List Tr → Prop
  | [] => True
  | ⟨a, ks⟩ :: r => LabOK a ∧ TrsOK ks ∧ TrsOK r
theorem TrsOK_cons (t : Tr) (r : List Tr) : TrsOK (t :: r) = (LabOK t.lab ∧ TrsOK t.kids ∧ TrsOK r) := by obtain ⟨a, ks⟩ := t; rw [TrsOK]
theorem TrsOK_nil : TrsOK [] := by unfold TrsOK; trivial
theorem TrsOK_append : ∀ (l : List Tr) (m : List Tr), TrsOK l → TrsOK m → TrsOK (l ++ m)
  | [], _, _, h => h
  | t :: r, m, h, k => by
    rw [TrsOK_cons] at h
    show TrsOK (t :: (r ++ m))
    rw [TrsOK_cons]; exact ⟨h.1, h.2.1, TrsOK_append r m h.2.2 k⟩
theorem TrsOK_mem : ∀ (l : List Tr) (t : Tr), TrsOK l → t ∈ l → LabOK t.lab ∧ TrsOK t.kids
  | [], t, _, h => by simp at h
  | u :: r, t, h, m => by
    rw [TrsOK_cons] at h
    rcases List.mem_cons.1 m with rfl | m
    · exact ⟨h.1, h.2.1⟩
    · exact TrsOK_mem r t h.2.2 m

theorem sz1_bd {a : Lab} (ha : LabOK a) {n : Int} (h0 : 0 ≤ n) (h1 : n ≤ 1000000) : 0 ≤ sz1 a n ∧ sz1 a n ≤ 1000000 := by
  have hm : 0 ≤ (if a.kind = 3 then max n 1 else n) := by split <;> omega
  have hM : (if a.kind = 3 then max n 1 else n) ≤ 1000000 := by split <;> omega
  unfold sz1
  split
  · omega
  · split
    · have : 0 ≤ (if a.kind = 3 then max n 1 else n) * max a.min 1 := Int.mul_nonneg hm (by omega)
      omega
    · have : 0 ≤ (if a.kind = 3 then max n 1 else n) * a.max := Int.mul_nonneg hm (by omega)
      omega
theorem sizes_bd : ∀ (l : List Tr) (acc : Int), TrsOK l → 0 ≤ acc → acc ≤ 1000000 → 0 ≤ sizes acc l ∧ sizes acc l ≤ 1000000
  | [], acc, _, h0, h1 => by rw [sizes]; exact ⟨h0, h1⟩
  | ⟨a, ks⟩ :: r, acc, h, h0, h1 => by
    rw [TrsOK] at h
    rw [sizes]
    have b := sizes_bd ks (szB a) h.2.1 (by unfold szB; split <;> omega) (by unfold szB; split <;> omega)
    have c := sz1_bd h.1 b.1 b.2
    exact sizes_bd r _ h.2.2 (by omega) (by omega)
theorem size_bd (t : Tr) (ha : LabOK t.lab) (hk : TrsOK t.kids) : 0 ≤ size t ∧ size t ≤ 1000000 := by
  have b := sizes_bd t.kids (szB t.lab) hk (by unfold szB; split <;> omega) (by unfold szB; split <;> omega)
  exact sz1_bd ha b.1 b.2
end Sp
end Go.Proofs.YtcpfpnjkfahjcaaDoor

/- What a pattern that was read is: no program is named here. -/
set_option linter.unusedSimpArgs false
set_option linter.unusedVariables false
namespace Go.Proofs.YtcpfpnjkfahjcaaDoor
open Go.RowKit
namespace Sp

theorem digits_le {s : ByteArray} {i : Nat} (h : digitAt s i = true) : 0 ≤ (digits s i).1 := by
  simp [digitAt] at h
  unfold digits; split
  · rename_i q; have := q.2; simp [digitAt] at this; simp; omega
  · simp; omega
theorem number_bd {m : Int} {s : ByteArray} {i j : Nat} {v : Int} (h : number m s i = .ok (v, j)) : 0 ≤ v ∧ v ≤ 20 := by
  unfold number at h; split at h
  · rename_i hd
    split at h
    · cases h
    · rename_i q
      have e : digits s i = (v, j) := by simpa using h
      have := digits_le hd; rw [e] at this q; simp at q this; omega
  · cases h
theorem bounds_bd {s : ByteArray} {i j : Nat} {m n : Int} (h : bounds s i = .ok (m, n, j)) : -1 ≤ m ∧ m ≤ 20 ∧ -1 ≤ n ∧ n ≤ 20 := by
  unfold bounds at h
  cases h1 : number 0 s i with
  | error f => simp [h1] at h
  | ok v =>
    obtain ⟨m', j'⟩ := v
    have g := number_bd h1
    simp only [h1] at h
    split at h
    · split at h
      · cases h2 : number m' s (j' + 1) with
        | error f => simp [h2] at h
        | ok v =>
          obtain ⟨n', k'⟩ := v
          have g' := number_bd h2
          simp only [h2] at h
          cases h3 : need 125 s k' with
          | error f => simp [h3] at h
          | ok l => simp [h3] at h; omega
      · cases h3 : need 125 s (j' + 1) with
        | error f => simp [h3] at h
        | ok l => simp [h3] at h; omega
    · cases h3 : need 125 s j' with
      | error f => simp [h3] at h
      | ok l => simp [h3] at h; omega
theorem count_bd {s : ByteArray} {i j : Nat} {m n : Int} (h : count s i = .ok (m, n, j)) : -1 ≤ m ∧ m ≤ 20 ∧ -1 ≤ n ∧ n ≤ 20 := by
  unfold count at h
  by_cases c1 : isAt s i 42 = true
  · rw [if_pos c1] at h; cases h; omega
  rw [if_neg c1] at h
  by_cases c2 : isAt s i 43 = true
  · rw [if_pos c2] at h; cases h; omega
  rw [if_neg c2] at h
  by_cases c3 : isAt s i 63 = true
  · rw [if_pos c3] at h; cases h; omega
  rw [if_neg c3] at h
  by_cases c4 : isAt s i 123 = true
  · rw [if_pos c4] at h; exact bounds_bd h
  rw [if_neg c4] at h; cases h; omega

theorem Few_cons (t : Tr) (r : List Tr) : Few (t :: r) = (t.kids.length ≤ 1000 ∧ Few t.kids ∧ Few r) := by obtain ⟨a, ks⟩ := t; rw [Few]
theorem Few_nil : Few [] := by unfold Few; trivial
theorem Few_append : ∀ (l : List Tr) (m : List Tr), Few l → Few m → Few (l ++ m)
  | [], _, _, h => h
  | t :: r, m, h, k => by
    rw [Few_cons] at h
    show Few (t :: (r ++ m))
    rw [Few_cons]; exact ⟨h.1, h.2.1, Few_append r m h.2.2 k⟩

/-- What is read is well made. -/
def Made (l : List Tr) : Prop := TrsOK l ∧ Few l
theorem Made.nil : Made [] := ⟨TrsOK_nil, Few_nil⟩
theorem Made.append {l m : List Tr} (h : Made l) (k : Made m) : Made (l ++ m) := ⟨TrsOK_append l m h.1 k.1, Few_append l m h.2 k.2⟩
theorem Made.one {a : Lab} {ks : List Tr} (ha : LabOK a) (hk : Made ks) (hl : ks.length ≤ 1000) : Made [⟨a, ks⟩] := by
  refine ⟨?_, ?_⟩
  · rw [TrsOK]; exact ⟨ha, hk.1, TrsOK_nil⟩
  · rw [Few]; exact ⟨hl, hk.2, Few_nil⟩
theorem Made.lab {t : Tr} (h : Made [t]) : LabOK t.lab ∧ Made t.kids ∧ t.kids.length ≤ 1000 := by
  obtain ⟨h1, h2⟩ := h
  rw [TrsOK_cons] at h1; rw [Few_cons] at h2
  exact ⟨h1.1, ⟨h1.2.1, h2.2.1⟩, h2.1⟩

def Makes (s : ByteArray) (f : At → Res (Tr × At)) : Prop := ∀ x t y, f x = .ok (t, y) → x.i ≤ s.size → 0 ≤ x.t → x.t ≤ 9 → Made [t]

theorem list_makes {s : ByteArray} {i j : Nat} {t : Tr} (h : list s i = .ok (t, j)) : Made [t] := by
  unfold list at h
  simp only [] at h
  cases h1 : items s (s.size + 1) (fun _ => false) (if isAt s i 94 = true then i + 1 else i) with
  | error f => simp [h1] at h
  | ok v =>
    obtain ⟨set, k⟩ := v
    simp only [h1] at h
    cases h
    exact Made.one ⟨by simp, by simp [blank], by simp [blank], by simp [blank], by simp [blank], by simp⟩ Made.nil (by simp)

theorem atom_makes {s : ByteArray} {d : Nat} {sub : At → Res (Tr × At)} (hg : Good s sub) (hs : Makes s sub) {x : At} {t : Tr} {y : At} (h : atom sub s d x = .ok (t, y)) (h0 : 0 ≤ x.t) (h9 : x.t ≤ 9) : Made [t] := by
  unfold atom at h
  by_cases c1 : isAt s x.i 40 = true
  · rw [if_pos c1] at h
    unfold group at h
    cases hh : head s d x with
    | error f => rw [hh] at h; cases h
    | ok v =>
      obtain ⟨k, z⟩ := v
      rw [hh] at h
      have a := head_ok hh (isAt_lt c1) h0 h9
      cases hb : sub z with
      | error f => simp [hb] at h
      | ok v =>
        obtain ⟨t', u⟩ := v
        have b := hs z t' u hb a.2.1 a.2.2.1 a.2.2.2
        cases hn : need 41 s u.i with
        | error f => simp [hb, hn] at h
        | ok j =>
          simp [hb, hn] at h; obtain ⟨rfl, rfl⟩ := h
          exact Made.one ⟨by simp, by simp [blank], by simp [blank], by simp [blank], by simp [blank], by simp⟩ b (by simp)
  rw [if_neg c1] at h
  by_cases c2 : isAt s x.i 91 = true
  · rw [if_pos c2] at h
    cases h1 : list s (x.i + 1) with
    | error f => simp [h1] at h
    | ok v => obtain ⟨t', j⟩ := v; simp [h1] at h; obtain ⟨rfl, rfl⟩ := h; exact list_makes h1
  rw [if_neg c2] at h
  by_cases c3 : isAt s x.i 46 = true
  · rw [if_pos c3] at h; cases h
    exact Made.one ⟨by simp, by simp [blank], by simp [blank], by simp [blank], by simp [blank], by simp⟩ Made.nil (by simp)
  rw [if_neg c3] at h
  cases h1 : byteBut false s x.i with
  | error f => simp [h1] at h
  | ok v =>
    obtain ⟨b, j⟩ := v
    simp [h1] at h; obtain ⟨rfl, rfl⟩ := h
    have := byteBut_ok h1
    exact Made.one ⟨by simp, by simp [blank], by simp [blank], by simp [blank], by simp [blank], fun _ => ⟨by simp; omega, fun c _ => rfl⟩⟩ Made.nil (by simp)

theorem part_makes {s : ByteArray} {d : Nat} {sub : At → Res (Tr × At)} (hg : Good s sub) (hs : Makes s sub) {x : At} {t : Tr} {y : At} (h : part sub s d x = .ok (t, y)) (h0 : 0 ≤ x.t) (h9 : x.t ≤ 9) : Made [t] := by
  unfold part at h
  cases h1 : atom sub s d x with
  | error f => simp [h1] at h
  | ok v =>
    obtain ⟨t', z⟩ := v
    have g := (atom_makes hg hs h1 h0 h9).lab
    cases h2 : count s z.i with
    | error f => simp [h1, h2] at h
    | ok v =>
      obtain ⟨m, n, j⟩ := v
      simp [h1, h2] at h; obtain ⟨rfl, rfl⟩ := h
      have c := count_bd h2
      exact Made.one ⟨g.1.kind, c.1, c.2.1, c.2.2.1, c.2.2.2, g.1.byte⟩ g.2.1 g.2.2
theorem parts_makes {s : ByteArray} {d : Nat} {sub : At → Res (Tr × At)} (hg : Good s sub) (hs : Makes s sub) : ∀ {n : Nat} {l : List Tr} {x : At} {l' : List Tr} {y : At}, parts sub s d n l x = .ok (l', y) → x.i ≤ s.size → 0 ≤ x.t → x.t ≤ 9 → Made l → l.length ≤ x.i → Made l' ∧ l'.length ≤ y.i
  | 0, _, _, _, _, h, _, _, _, _, _ => by cases h
  | n + 1, l, x, l', y, h, hi, h0, h9, hl, hn => by
    unfold parts at h
    split at h
    · cases h; exact ⟨hl, hn⟩
    · cases h1 : part sub s d x with
      | error f => simp [h1] at h
      | ok v =>
        obtain ⟨t', z⟩ := v
        have g := part_good hg h1 h0 h9
        simp only [h1] at h
        exact parts_makes hg hs h g.2.1 g.2.2.1 g.2.2.2 (hl.append (part_makes hg hs h1 h0 h9)) (by simp; omega)
theorem row_makes {s : ByteArray} {d : Nat} {sub : At → Res (Tr × At)} (hz : s.size ≤ 200) (hg : Good s sub) (hs : Makes s sub) : Makes s (row sub s d) := by
  intro x t y h hi h0 h9
  unfold row at h
  cases h1 : parts sub s d (s.size + 1) [] x with
  | error f => simp [h1] at h
  | ok v =>
    obtain ⟨l, z⟩ := v
    simp [h1] at h; obtain ⟨rfl, rfl⟩ := h
    have a := parts_makes hg hs h1 hi h0 h9 Made.nil (by simp)
    have b := parts_good hg h1 hi h0 h9
    exact Made.one ⟨by simp, by simp [blank], by simp [blank], by simp [blank], by simp [blank], by simp⟩ a.1 (by omega)
theorem rows_makes {s : ByteArray} {d : Nat} {sub : At → Res (Tr × At)} (hz : s.size ≤ 200) (hg : Good s sub) (hs : Makes s sub) : ∀ {n : Nat} {l : List Tr} {x : At} {l' : List Tr} {y : At}, rows sub s d n l x = .ok (l', y) → x.i ≤ s.size → 0 ≤ x.t → x.t ≤ 9 → Made l → l.length ≤ x.i → Made l' ∧ l'.length ≤ y.i + 1
  | 0, _, _, _, _, h, _, _, _, _, _ => by cases h
  | n + 1, l, x, l', y, h, hi, h0, h9, hl, hn => by
    unfold rows at h
    cases h1 : row sub s d x with
    | error f => simp [h1] at h
    | ok v =>
      obtain ⟨t', z⟩ := v
      have g := row_good hg x t' z h1 hi h0 h9
      have m := row_makes hz hg hs x t' z h1 hi h0 h9
      simp only [h1] at h
      split at h
      · rename_i q
        exact rows_makes hz hg hs h (by have := isAt_lt q; simp; omega) g.2.2.1 g.2.2.2 (hl.append m) (by simp; omega)
      · cases h; exact ⟨hl.append m, by simp; omega⟩
theorem choice_makes (s : ByteArray) (hz : s.size ≤ 200) : ∀ k, Makes s (choice s k)
  | 0 => by intro x t y h; cases h
  | k + 1 => by
    intro x t y h hi h0 h9
    unfold choice at h
    cases h1 : rows (choice s k) s (8 - k) (s.size + 1) [] x with
    | error f => simp [h1] at h
    | ok v =>
      obtain ⟨l, z⟩ := v
      simp [h1] at h; obtain ⟨rfl, rfl⟩ := h
      have a := rows_makes hz (choice_good s k) (choice_makes s hz k) h1 hi h0 h9 Made.nil (by simp)
      have b := rows_good (choice_good s k) h1 hi h0 h9
      exact Made.one ⟨by simp, by simp [blank], by simp [blank], by simp [blank], by simp [blank], by simp⟩ a.1 (by omega)

/-- A pattern: the tree, and how many groups are told. -/
def read (s : ByteArray) : Res (Tr × Int) :=
  if s.size > 200 then .error (2, 0)
  else match choice s 9 ⟨0, 0⟩ with
    | .error f => .error f
    | .ok (t, y) => if y.i < s.size then .error (3, y.i) else if size t > 60 then .error (7, 0) else .ok (t, y.t)
end Sp
end Go.Proofs.YtcpfpnjkfahjcaaDoor

/- Printing: no program is named here. -/
set_option linter.unusedSimpArgs false
set_option linter.unusedVariables false
namespace Go.Proofs.YtcpfpnjkfahjcaaDoor
namespace Sp

def u8 (n : Int) : UInt8 := UInt8.ofNat n.toNat
/-- A number of one or two digits. -/
def digs (n : Int) : List UInt8 := if 9 < n then [u8 (48 + n / 10), u8 (48 + n % 10)] else [u8 (48 + n)]
def hexB (n : Int) : UInt8 := if n ≤ 9 then u8 (48 + n) else u8 (87 + n)
/-- A byte; in a list, or not. -/
def shown (c : Int) (l : Bool) : List UInt8 :=
  if c = 10 then [92, 110]
  else if c = 9 then [92, 116]
  else if c < 33 ∨ 126 < c then [92, 120, hexB (c / 16), hexB (c % 16)]
  else if (if l then listSign c else sign c) then [92, u8 c]
  else [u8 c]
end Sp
def str (l : List UInt8) : ByteArray := ⟨l.toArray⟩
end Go.Proofs.YtcpfpnjkfahjcaaDoor
