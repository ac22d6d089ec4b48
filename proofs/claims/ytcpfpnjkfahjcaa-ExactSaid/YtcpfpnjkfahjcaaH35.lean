import Derived.Test.YtcpfpnjkfahjcaaH34
/- Bytes that are escaped one by one, and lists of them: how they are read: no program is named here. -/
set_option linter.unusedSimpArgs false
set_option linter.unusedVariables false
namespace Go.Proofs.Ytcpfpnjkfahjcaa
namespace Sp

def hx (x : UInt8) : List UInt8 := [92, 120, hexB ((x.toNat : Int) / 16), hexB ((x.toNat : Int) % 16)]
def hxs (l : List UInt8) : List UInt8 := l.flatMap hx
theorem hxs_nil : hxs [] = [] := rfl
theorem hxs_cons (x : UInt8) (l : List UInt8) : hxs (x :: l) = 92 :: 120 :: hexB ((x.toNat : Int) / 16) :: hexB ((x.toNat : Int) % 16) :: hxs l := rfl
theorem hxs_snoc (x : UInt8) (l : List UInt8) : hxs (l ++ [x]) = hxs l ++ hx x := by unfold hxs; simp
theorem hxs_len : ∀ l : List UInt8, (hxs l).length = 4 * l.length
  | [] => rfl
  | x :: l => by rw [hxs_cons]; simp [hxs_len l]; omega
def bT (x : UInt8) : Tr := ⟨{ blank with kind := 0, byte := x.toNat, set := fun c => c == x.toNat }, []⟩
theorem u8_le (x : UInt8) : (x.toNat : Int) ≤ 255 := by have := x.toNat_lt; omega

theorem hx_part {f : At → Res (Tr × At)} {s : ByteArray} {d i : Nat} {t : Int} {x : UInt8} {m : List UInt8} (h : Stands s i (92 :: 120 :: hexB ((x.toNat : Int) / 16) :: hexB ((x.toNat : Int) % 16) :: m)) (hc : count s (i + 4) = .ok (-1, 0, i + 4)) : part f s d ⟨i, t⟩ = .ok (bT x, ⟨i + 4, t⟩) := by
  have ha : atom f s d ⟨i, t⟩ = .ok (bT x, ⟨i + 4, t⟩) := by
    unfold atom
    simp only
    rw [h.is 40, if_neg (by decide), h.is 91, if_neg (by decide), h.is 46, if_neg (by decide), byteBut_hex false h (by omega) (u8_le x)]
    rfl
  unfold part; rw [ha]; simp only; rw [hc]; rfl
/-- What comes next: an escape, or this byte. -/
theorem next_is {s : ByteArray} {i : Nat} {A : List UInt8} {y : UInt8} (h : Stands s i (hxs A ++ [y])) (c : Int) (h1 : c ≠ 92) (h2 : c ≠ (y.toNat : Int)) : isAt s i c = false := by
  cases A with
  | nil => rw [Stands.is h]; simp; exact fun q => h2 q.symm
  | cons x A => rw [hxs_cons] at h; rw [Stands.is h]; simp; exact fun q => h1 q.symm
theorem Stands.tail4 {s : ByteArray} {i : Nat} {x : UInt8} {A m : List UInt8} (h : Stands s i (hxs (x :: A) ++ m)) : Stands s (i + 4) (hxs A ++ m) := by
  rw [hxs_cons] at h
  exact h.cons.2.2.cons.2.2.cons.2.2.cons.2.2
theorem hxs_parts {f : At → Res (Tr × At)} {s : ByteArray} {d : Nat} {t : Int} : ∀ (A : List UInt8) (n : Nat) (l : List Tr) (i : Nat), Stands s i (hxs A ++ [41]) → A.length < n → parts f s d n l ⟨i, t⟩ = .ok (l ++ A.map bT, ⟨i + 4 * A.length, t⟩)
  | [], 0, l, i, h, hn => by simp at hn
  | [], n + 1, l, i, h, hn => by
    have h' : Stands s i [41] := h
    rw [parts, if_pos (over_shut h'.cons.2.1 h'.cons.1)]; simp
  | x :: A, 0, l, i, h, hn => by simp at hn
  | x :: A, n + 1, l, i, h, hn => by
    have ht := h.tail4
    have h' := h
    rw [hxs_cons] at h'
    have hp := hx_part (f := f) (d := d) (t := t) h' (count_no (next_is ht _ (by decide) (by decide)) (next_is ht _ (by decide) (by decide)) (next_is ht _ (by decide) (by decide)) (next_is ht _ (by decide) (by decide)))
    rw [parts, if_neg (by rw [over_is' h'.cons.2.1 h'.cons.1 (by decide) (by decide)]; decide), hp]
    simp only
    rw [hxs_parts A n (l ++ [bT x]) (i + 4) ht (by simp at hn; omega)]
    simp; omega
def exactI (A : List UInt8) : Tr := choiceT [rowT (A.map bT)]
def exactT (A : List UInt8) : Tr := choiceT [rowT [⟨gL 1, [exactI A]⟩]]
def exactS (A : List UInt8) : List UInt8 := [40] ++ hxs A ++ [41]
theorem exact_choice (A : List UInt8) : choice (str (exactS A)) 9 ⟨0, 0⟩ = .ok (exactT A, ⟨(exactS A).length, 1⟩) := by
  have hz : (str (exactS A)).size = 2 + 4 * A.length := by rw [str_size]; simp [exactS, hxs_len]; omega
  have hl : (exactS A).length = 2 + 4 * A.length := by simp [exactS, hxs_len]; omega
  have t0 : Stands (str (exactS A)) 0 (40 :: (hxs A ++ [41])) := Stands.of [] _ [] (by simp [exactS]) rfl
  have t1 : Stands (str (exactS A)) 1 (hxs A ++ [41]) := t0.cons.2.2
  have t2 : Stands (str (exactS A)) (1 + 4 * A.length) [41] := by have := t1.append.2; rwa [hxs_len] at this
  rw [hl]
  generalize str (exactS A) = u at *
  have hr : row (choice u 7) u 1 ⟨1, 1⟩ = .ok (rowT (A.map bT), ⟨1 + 4 * A.length, 1⟩) := by
    unfold row
    rw [hxs_parts A _ [] 1 t1 (by omega)]; rfl
  have hch : choice u 8 ⟨1, 1⟩ = .ok (exactI A, ⟨1 + 4 * A.length, 1⟩) := choice_one hr (by rw [t2.is]; decide)
  have ha : atom (choice u 8) u 0 ⟨0, 0⟩ = .ok (⟨gL 1, [exactI A]⟩, ⟨1 + 4 * A.length + 1, 1⟩) := by
    unfold atom
    simp only
    rw [t0.is 40, if_pos (by decide)]
    unfold group head
    simp only
    rw [if_neg (by omega), next_is t1 63 (by decide) (by decide), if_neg (by decide), if_neg (by omega)]
    simp only
    have e : (⟨0 + 1, (0 : Int) + 1⟩ : At) = ⟨1, 1⟩ := rfl
    rw [e, hch]
    simp only
    unfold need
    rw [t2.is, if_pos (by decide)]
    rfl
  have he : u.size = 1 + 4 * A.length + 1 := by omega
  rw [← he] at ha
  have hp : part (choice u 8) u 0 ⟨0, 0⟩ = .ok (⟨gL 1, [exactI A]⟩, ⟨u.size, 1⟩) := by
    unfold part
    rw [ha]
    simp only
    rw [count_no (is_end (Nat.le_refl _)) (is_end (Nat.le_refl _)) (is_end (Nat.le_refl _)) (is_end (Nat.le_refl _))]; rfl
  have r := row_q1 (over_is' t0.cons.2.1 t0.cons.1 (by decide) (by decide)) hp (over_end (Nat.le_refl _)) (by omega)
  have := choice_one (k := 8) r (is_end (Nat.le_refl _))
  rw [show 2 + 4 * A.length = u.size by omega]
  exact this
theorem bT_sizes : ∀ (A : List UInt8) (acc : Int), 0 ≤ acc → 0 ≤ sizes acc (A.map bT) ∧ sizes acc (A.map bT) ≤ acc + A.length
  | [], acc, h => by simp [sizes]; omega
  | x :: A, acc, h => by
    rw [List.map_cons, sizes_cons]
    have e : size (bT x) = 1 := by unfold size bT; simp only; rw [sizes]; rfl
    rw [e]
    have := bT_sizes A (min (acc + 1) 1000000) (by omega)
    simp
    omega
theorem exact_size (A : List UInt8) (hA : A.length ≤ 40) : size (exactT A) ≤ 41 := by
  have h := bT_sizes A 0 (by omega)
  have e1 : size (exactI A) = min (0 + sizes 0 (A.map bT)) 1000000 := by
    unfold exactI choiceT rowT size
    rw [sizes, sizes]
    unfold sz1 szB; simp [blank]
  have e2 : size (⟨gL 1, [exactI A]⟩ : Tr) = max (min (0 + size (exactI A)) 1000000) 1 := by
    show sz1 _ (sizes _ [exactI A]) = _
    rw [sizes_cons, sizes]
    unfold sz1 szB gL; simp [blank]
  have e3 : size (rowT [(⟨gL 1, [exactI A]⟩ : Tr)]) = min (0 + size (⟨gL 1, [exactI A]⟩ : Tr)) 1000000 := by
    show sz1 { blank with kind := 5 } (sizes 0 [(⟨gL 1, [exactI A]⟩ : Tr)]) = _
    rw [sizes_cons, sizes]
    unfold sz1; simp [blank]
  have e4 : size (exactT A) = min (0 + size (rowT [(⟨gL 1, [exactI A]⟩ : Tr)])) 1000000 := by
    show sz1 { blank with kind := 4 } (sizes 0 [rowT [(⟨gL 1, [exactI A]⟩ : Tr)]]) = _
    rw [sizes_cons, sizes]
    unfold sz1; simp [blank]
  rw [e4, e3, e2, e1]
  omega
theorem exact_read (A : List UInt8) (hA : A.length ≤ 40) : read (str (exactS A)) = .ok (exactT A, 1) := by
  have hz : (str (exactS A)).size = (exactS A).length := str_size _
  have hl : (exactS A).length = 2 + 4 * A.length := by simp [exactS, hxs_len]; omega
  unfold read
  rw [if_neg (by omega), exact_choice A]
  simp only
  rw [if_neg (by omega), if_neg (by have := exact_size A hA; omega)]

/-! A list. -/
def setOf (A : List UInt8) (f : Nat → Bool) : Nat → Bool := A.foldl (fun f x => add f x.toNat x.toNat) f
theorem item_hx {s : ByteArray} {i : Nat} {x : UInt8} {A : List UInt8} (h : Stands s i (hxs (x :: A) ++ [93])) : item s i = .ok ((x.toNat : Int), (x.toNat : Int), i + 4) := by
  have ht := h.tail4
  rw [hxs_cons] at h
  unfold item
  rw [byteBut_hex true h (by omega) (u8_le x)]
  simp only
  rw [next_is ht 45 (by decide) (by decide), if_neg (by decide)]
theorem items_hx {s : ByteArray} : ∀ (A : List UInt8) (n : Nat) (f : Nat → Bool) (i : Nat), A ≠ [] → Stands s i (hxs A ++ [93]) → A.length ≤ n → items s n f i = .ok (setOf A f, i + 4 * A.length + 1)
  | [], n, f, i, h0, h, hn => absurd rfl h0
  | x :: A, 0, f, i, h0, h, hn => by simp at hn
  | [x], n + 1, f, i, h0, h, hn => by
    rw [items, item_hx h]
    simp only
    have ht : Stands s (i + 4) [93] := h.tail4
    rw [ht.is, if_pos (by decide)]; rfl
  | x :: y :: A, n + 1, f, i, h0, h, hn => by
    rw [items, item_hx h]
    simp only
    have ht := h.tail4
    have h' := ht
    rw [hxs_cons] at h'
    rw [Stands.is h', if_neg (by decide), items_hx (y :: A) n _ (i + 4) (by simp) ht (by simp at hn ⊢; omega)]
    simp only [List.length_cons]
    congr 2; omega
def listT (A : List UInt8) (b : Bool) : Tr := ⟨{ blank with kind := 2, set := setOf A (fun _ => false), not := b }, []⟩
def listC (A : List UInt8) (b : Bool) : Tr := choiceT [rowT [listT A b]]
def listS (A : List UInt8) (b : Bool) : List UInt8 := (if b then [91, 94] else [91]) ++ hxs A ++ [93]
theorem list_choice (A : List UInt8) (b : Bool) (hA : A ≠ []) : choice (str (listS A b)) 9 ⟨0, 0⟩ = .ok (listC A b, ⟨(listS A b).length, 0⟩) := by
  have hz : (str (listS A b)).size = (listS A b).length := str_size _
  have t0 : ∃ m, Stands (str (listS A b)) 0 (91 :: m) := by
    cases b
    · exact ⟨hxs A ++ [93], Stands.of [] _ [] (by simp [listS]) rfl⟩
    · exact ⟨94 :: (hxs A ++ [93]), Stands.of [] _ [] (by simp [listS]) rfl⟩
  obtain ⟨m, t0⟩ := t0
  have hli : list (str (listS A b)) 1 = .ok (listT A b, (str (listS A b)).size) := by
    unfold list
    cases b
    · have t1 : Stands (str (listS A false)) 1 (hxs A ++ [93]) := Stands.of [91] _ [] (by simp [listS]) rfl
      simp only
      rw [next_is t1 94 (by decide) (by decide), if_neg (by decide), items_hx A _ _ 1 hA t1 (by rw [hz]; simp [listS, hxs_len]; omega)]
      simp only
      rw [show 1 + 4 * A.length + 1 = (str (listS A false)).size by rw [hz]; simp [listS, hxs_len]; omega]; rfl
    · have t1 : Stands (str (listS A true)) 1 (94 :: (hxs A ++ [93])) := Stands.of [91] _ [] (by simp [listS]) rfl
      simp only
      rw [t1.is 94, show decide (((94 : UInt8).toNat : Int) = 94) = true by decide, if_pos rfl, items_hx A _ _ (1 + 1) hA t1.cons.2.2 (by rw [hz]; simp [listS, hxs_len]; omega)]
      simp only
      rw [show 1 + 1 + 4 * A.length + 1 = (str (listS A true)).size by rw [hz]; simp [listS, hxs_len]; omega]; rfl
  rw [← hz]
  have h1 : 1 ≤ (str (listS A b)).size := by have := t0.cons.1; omega
  generalize str (listS A b) = u at *
  have ha : atom (choice u 8) u 0 ⟨0, 0⟩ = .ok (listT A b, ⟨u.size, 0⟩) := by
    unfold atom
    simp only
    rw [t0.is 40, if_neg (by decide), t0.is 91, if_pos (by decide), show 0 + 1 = 1 from rfl, hli]
  have hp : part (choice u 8) u 0 ⟨0, 0⟩ = .ok (listT A b, ⟨u.size, 0⟩) := by
    unfold part
    rw [ha]
    simp only
    rw [count_no (is_end (Nat.le_refl _)) (is_end (Nat.le_refl _)) (is_end (Nat.le_refl _)) (is_end (Nat.le_refl _))]; rfl
  have r := row_q1 (over_is' t0.cons.2.1 t0.cons.1 (by decide) (by decide)) hp (over_end (Nat.le_refl _)) h1
  exact choice_one (k := 8) r (is_end (Nat.le_refl _))
theorem list_size (A : List UInt8) (b : Bool) : size (listC A b) = 1 := by
  unfold listC choiceT rowT listT size
  simp only [sizes]
  rfl
theorem list_read (A : List UInt8) (b : Bool) (h0 : A ≠ []) (hA : A.length ≤ 40) : read (str (listS A b)) = .ok (listC A b, 0) := by
  have hz : (str (listS A b)).size = (listS A b).length := str_size _
  have hl : (listS A b).length ≤ 3 + 4 * A.length := by cases b <;> simp [listS, hxs_len] <;> omega
  unfold read
  rw [if_neg (by omega), list_choice A b h0]
  simp only
  rw [if_neg (by omega), if_neg (by rw [list_size]; omega)]
end Sp
end Go.Proofs.Ytcpfpnjkfahjcaa

/- What escaped bytes and lists of them match: no program is named here. -/
set_option linter.unusedSimpArgs false
set_option linter.unusedVariables false
namespace Go.Proofs.Ytcpfpnjkfahjcaa
namespace Sp

theorem Stands.nil {s : ByteArray} {i : Nat} (h : i ≤ s.size) : Stands s i [] := ⟨by simpa using h, fun k x hk => by simp at hk⟩
theorem Stands.mk {s : ByteArray} {i : Nat} {x : UInt8} {l : List UInt8} (h1 : byteAt s i = (x.toNat : Int)) (h2 : Stands s (i + 1) l) : Stands s i (x :: l) := by
  refine ⟨by have := h2.1; simp; omega, fun k y hk => ?_⟩
  cases k with
  | zero => simp at hk; subst hk; simpa using h1
  | succ k => have := h2.2 k y (by simpa using hk); rw [← this]; congr 1; omega
theorem Stands.all {s : ByteArray} {A : List UInt8} (h : Stands s 0 A) (hz : s.size = A.length) : s = str A := by
  obtain ⟨l, rfl⟩ : ∃ l, s = str l := ⟨_, (str_of s).symm⟩
  rw [str_size] at hz
  congr 1
  apply List.ext_getElem?
  intro k
  by_cases hk : k < A.length
  · have e1 : l[k]? = some l[k] := List.getElem?_eq_getElem (by omega)
    have e2 : A[k]? = some A[k] := List.getElem?_eq_getElem hk
    have h1 := h.2 k _ e2
    rw [Nat.zero_add, byteAt_str l k _ e1] at h1
    rw [e1, e2]
    congr 1
    exact UInt8.toNat_inj.mp (by omega)
  · rw [List.getElem?_eq_none (by omega), List.getElem?_eq_none (by omega)]
theorem bT_sem (s : ByteArray) (x : UInt8) : sem s (bT x) = ⟨one s (fun c => c == x.toNat), fun _ _ => []⟩ := by
  unfold sem bT node
  rw [if_pos (by show (-1 : Int) < 0; omega)]
  unfold bareSem
  rw [if_pos (by show (0 : Nat) ≤ 2; omega)]
  congr 1
  funext i j
  unfold one fits
  simp [blank]
theorem one_iff {s : ByteArray} {x : UInt8} {i j : Nat} : one s (fun c => c == x.toNat) i j = true ↔ j = i + 1 ∧ i < s.size ∧ byteAt s i = (x.toNat : Int) := by
  unfold one
  have := byteAt_lo s i
  simp
  constructor
  · rintro ⟨⟨a, b⟩, c⟩; exact ⟨a, b, by omega⟩
  · rintro ⟨a, b, c⟩; exact ⟨⟨a, b⟩, by omega⟩
theorem bytes_m {s : ByteArray} : ∀ (A : List UInt8) (i j : Nat), i ≤ s.size → (rowM (sems s (A.map bT)) i j = true ↔ j = i + A.length ∧ Stands s i A)
  | [], i, j, hi => by
    rw [List.map_nil, sems_nil, rowM]
    simp
    constructor
    · rintro rfl; exact ⟨rfl, Stands.nil hi⟩
    · rintro ⟨h, _⟩; exact h.symm
  | x :: A, i, j, hi => by
    rw [List.map_cons, sems_cons, rowM, cutB_iff, bT_sem]
    constructor
    · rintro ⟨k, k1, k2, k3, k4⟩
      obtain ⟨rfl, h1, h2⟩ := one_iff.mp k3
      obtain ⟨h3, h4⟩ := (bytes_m A (i + 1) j (by omega)).mp k4
      exact ⟨by simp; omega, Stands.mk h2 h4⟩
    · rintro ⟨h1, h2⟩
      obtain ⟨h3, h4, h5⟩ := h2.cons
      simp at h1
      exact ⟨i + 1, by omega, by omega, one_iff.mpr ⟨rfl, h3, h4⟩, (bytes_m A (i + 1) j (by omega)).mpr ⟨by omega, h5⟩⟩
theorem bytes_g {s : ByteArray} : ∀ (A : List UInt8) (i j : Nat), rowG (sems s (A.map bT)) i j = []
  | [], i, j => by rw [List.map_nil, sems_nil, rowG]
  | x :: A, i, j => by
    rw [List.map_cons, sems_cons, rowG, bT_sem]
    cases greatest (fun k => (⟨one s (fun c => c == x.toNat), fun _ _ => []⟩ : Sem).m i k && rowM (sems s (A.map bT)) k j) i j with
    | none => rfl
    | some k => simp only; rw [bytes_g A]; rfl
theorem exactI_m (s : ByteArray) (A : List UInt8) (i j : Nat) : (sem s (exactI A)).m i j = rowM (sems s (A.map bT)) i j := by
  unfold exactI
  rw [choiceT_sem, sems_cons, sems_nil]
  show choiceM _ i j = _
  rw [choice1_m, rowT_sem]
theorem exactI_g (s : ByteArray) (A : List UInt8) (i j : Nat) : (sem s (exactI A)).g i j = [] := by
  unfold exactI
  rw [choiceT_sem, sems_cons, sems_nil]
  show choiceG _ i j = _
  rw [choiceG]
  split
  · rw [rowT_sem]; exact bytes_g A i j
  · rfl
theorem groupOf_sem (s : ByteArray) (t : Tr) : sem s ⟨gL 1, [t]⟩ = ⟨choiceM [sem s t], fun i j => [(1, i, j)] ++ choiceG [sem s t] i j⟩ := by
  unfold sem node bareSem gL
  simp [blank]
  rw [sems_cons, sems_nil]; exact ⟨rfl, rfl⟩
theorem exact_m (s : ByteArray) (A : List UInt8) : (sem s (exactT A)).m 0 s.size = true ↔ s = str A := by
  have e : (sem s (exactT A)).m 0 s.size = rowM (sems s (A.map bT)) 0 s.size := by
    unfold exactT
    rw [choiceT_sem, sems_cons, sems_nil]
    show choiceM _ 0 s.size = _
    rw [choice1_m, rowT1_m, groupOf_sem]
    show choiceM _ 0 s.size = _
    rw [choice1_m, exactI_m]
  rw [e, bytes_m A 0 s.size (by omega)]
  constructor
  · rintro ⟨h1, h2⟩; exact h2.all (by omega)
  · intro h
    have hz : s.size = A.length := by rw [h, str_size]
    refine ⟨by omega, ?_⟩
    rw [h]; exact Stands.of [] _ [] (by simp) rfl
theorem exact_g (A : List UInt8) : (sem (str A) (exactT A)).g 0 A.length = [(1, 0, A.length)] := by
  have hm := (exact_m (str A) A).mpr rfl
  rw [str_size] at hm
  unfold exactT at hm ⊢
  rw [choiceT_sem, sems_cons, sems_nil] at hm ⊢
  have hm' : choiceM [sem (str A) (rowT [⟨gL 1, [exactI A]⟩])] 0 A.length = true := hm
  rw [choice1_m] at hm'
  show choiceG _ 0 A.length = _
  rw [choice1_g _ _ _ hm']
  rw [rowT1_m] at hm'
  rw [rowT1_g _ _ _ _ hm']
  rw [groupOf_sem] at hm' ⊢
  have hm2 : choiceM [sem (str A) (exactI A)] 0 A.length = true := hm'
  rw [choice1_m] at hm2
  show [(1, 0, A.length)] ++ choiceG _ 0 A.length = _
  rw [choice1_g _ _ _ hm2, exactI_g]; rfl
theorem two_spans (n k : Nat) (hk : k < 2) : spansOf [(1, 0, n)] n k = [((0 : Int), (n : Int)), (0, (n : Int))].getD k (0, 0) := by
  rcases (by omega : k = 0 ∨ k = 1) with rfl | rfl <;> rfl

theorem setOf_iff (c : Nat) : ∀ (A : List UInt8) (f : Nat → Bool), setOf A f c = true ↔ f c = true ∨ ∃ x ∈ A, x.toNat = c
  | [], f => by unfold setOf; simp
  | x :: A, f => by
    have e : setOf (x :: A) f = setOf A (add f x.toNat x.toNat) := rfl
    rw [e, setOf_iff c A]
    unfold add
    simp
    constructor
    · rintro ((h | ⟨h1, h2⟩) | h)
      · exact Or.inl h
      · exact Or.inr (Or.inl (by omega))
      · exact Or.inr (Or.inr h)
    · rintro (h | h | h)
      · exact Or.inl (Or.inl h)
      · exact Or.inl (Or.inr (by omega))
      · exact Or.inr h
/-- Is this byte among them? -/
def among (A : List UInt8) (c : Nat) : Bool := A.any fun x => x.toNat == c
theorem setOf_none (A : List UInt8) (c : Nat) : setOf A (fun _ => false) c = among A c := by
  rw [Bool.eq_iff_iff, setOf_iff]
  unfold among
  simp
theorem list_m (A : List UInt8) (b : Bool) (c : Nat) (hc : c < 256) : (sem (str [u8 c]) (listC A b)).m 0 (str [u8 c]).size = (among A c != b) := by
  have hz : (str [u8 c]).size = 1 := rfl
  have hb : byteAt (str [u8 c]) 0 = c := by
    rw [byteAt_str [u8 c] 0 (u8 c) rfl]; exact u8_toNat (by omega) (by omega)
  unfold listC
  rw [choiceT_sem, sems_cons, sems_nil, hz]
  show choiceM _ 0 1 = _
  have e : sem (str [u8 c]) (listT A b) = ⟨one (str [u8 c]) (fits (listT A b).lab), fun _ _ => []⟩ := by
    unfold sem node
    rw [if_pos (show (listT A b).lab.min < 0 by show (-1 : Int) < 0; omega)]
    unfold bareSem
    rw [if_pos (show (listT A b).lab.kind ≤ 2 by show (2 : Nat) ≤ 2; omega)]
  have ef : fits (listT A b).lab c = (among A c != b) := by rw [← setOf_none]; rfl
  rw [choice1_m, rowT1_m, e]
  show one (str [u8 c]) (fits (listT A b).lab) 0 1 = _
  unfold one
  rw [hb, hz]
  simp [ef]
end Sp
end Go.Proofs.Ytcpfpnjkfahjcaa
