import Derived.Test.YtcpfpnjkfahjcaaGreatDoorH36
/- Bytes that are escaped one by one, and lists of them: how they are read: no program is named here. -/
set_option linter.unusedSimpArgs false
set_option linter.unusedVariables false
namespace Go.Proofs.YtcpfpnjkfahjcaaGreatDoor
namespace Sp

def hx (x : UInt8) : List UInt8 := [92, 120, hexB ((x.toNat : Int) / 16), hexB ((x.toNat : Int) % 16)]
def hxs (l : List UInt8) : List UInt8 := l.flatMap hx
theorem hxs_nil : hxs [] = [] := rfl
theorem hxs_cons (x : UInt8) (l : List UInt8) : hxs (x :: l) = 92 :: 120 :: hexB ((x.toNat : Int) / 16) :: hexB ((x.toNat : Int) % 16) :: hxs l := rfl
theorem hxs_snoc (x : UInt8) (l : List UInt8) : hxs (l ++ [x]) = hxs l ++ hx x := by unfold hxs; simp
theorem hxs_len : ∀ l : List UInt8, (hxs l).length = 4 * l.length
  | [] => rfl
  | x :: l => by rw [hxs_cons]; simp [hxs_len l]; omega
def bT (x : UInt8) : Tr := ⟨{ blank with kind := 0, byte := x.toNat, set := fun c => c == x.toNat }, []⟩
theorem u8_le (x : UInt8) : (x.toNat : Int) ≤ 255 := by have := x.toNat_lt; omega

theorem hx_part {f : At → Res (Tr × At)} {s : ByteArray} {d i : Nat} {t : Int} {x : UInt8} {m : List UInt8} (h : Stands s i (92 :: 120 :: hexB ((x.toNat : Int) / 16) :: hexB ((x.toNat : Int) % 16) :: m)) (hc : count s (i + 4) = .ok (-1, 0, i + 4)) : part f s d ⟨i, t⟩ = .ok (bT x, ⟨i + 4, t⟩) := by
  have ha : atom f s d ⟨i, t⟩ = .ok (bT x, ⟨i + 4, t⟩) := by
    unfold atom
    simp only
    rw [h.is 40, if_neg (by decide), h.is 91, if_neg (by decide), h.is 46, if_neg (by decide), byteBut_hex false h (by omega) (u8_le x)]
    rfl
  unfold part; rw [ha]; simp only; rw [hc]; rfl
/-- What comes next: an escape, or this byte. -/
theorem next_is {s : ByteArray} {i : Nat} {A : List UInt8} {y : UInt8} (h : Stands s i (hxs A ++ [y])) (c : Int) (h1 : c ≠ 92) (h2 : c ≠ (y.toNat : Int)) : isAt s i c = false := by
  cases A with
  | nil => rw [Stands.is h]; simp; exact fun q => h2 q.symm
  | cons x A => rw [hxs_cons] at h; rw [Stands.is h]; simp; exact fun q => h1 q.symm
theorem Stands.tail4 {s : ByteArray} {i : Nat} {x : UInt8} {A m : List UInt8} (h : Stands s i (hxs (x :: A) ++ m)) : Stands s (i + 4) (hxs A ++ m) := by
  rw [hxs_cons] at h
  exact h.cons.2.2.cons.2.2.cons.2.2.cons.2.2
theorem hxs_parts {f : At → Res (Tr × At)} {s : ByteArray} {d : Nat} {t : Int} : ∀ (A : List UInt8) (n : Nat) (l : List Tr) (i : Nat), Stands s i (hxs A ++ [41]) → A.length < n → parts f s d n l ⟨i, t⟩ = .ok (l ++ A.map bT, ⟨i + 4 * A.length, t⟩)
  | [], 0, l, i, h, hn => by simp at hn
  | [], n + 1, l, i, h, hn => by
    have h' : Stands s i [41] := h
    rw [parts, if_pos (over_shut h'.cons.2.1 h'.cons.1)]; simp
  | x :: A, 0, l, i, h, hn => by simp at hn
  | x :: A, n + 1, l, i, h, hn => by
    have ht := h.tail4
    have h' := h
    rw [hxs_cons] at h'
    have hp := hx_part (f := f) (d := d) (t := t) h' (count_no (next_is ht _ (by decide) (by decide)) (next_is ht _ (by decide) (by decide)) (next_is ht _ (by decide) (by decide)) (next_is ht _ (by decide) (by decide)))
    rw [parts, if_neg (by rw [over_is' h'.cons.2.1 h'.cons.1 (by decide) (by decide)]; decide), hp]
    simp only
    rw [hxs_parts A n (l ++ [bT x]) (i + 4) ht (by simp at hn; omega)]
    simp; omega
def exactI (A : List UInt8) : Tr := choiceT [rowT (A.map bT)]
def exactT (A : List UInt8) : Tr := choiceT [rowT [⟨gL 1, [exactI A]⟩]]
def exactS (A : List UInt8) : List UInt8 := [40] ++ hxs A ++ [41]
theorem exact_choice (A : List UInt8) : choice (str (exactS A)) 9 ⟨0, 0⟩ = .ok (exactT A, ⟨(exactS A).length, 1⟩) := by
  have hz : (str (exactS A)).size = 2 + 4 * A.length := by rw [str_size]; simp [exactS, hxs_len]; omega
  have hl : (exactS A).length = 2 + 4 * A.length := by simp [exactS, hxs_len]; omega
  have t0 : Stands (str (exactS A)) 0 (40 :: (hxs A ++ [41])) := Stands.of [] _ [] (by simp [exactS]) rfl
  have t1 : Stands (str (exactS A)) 1 (hxs A ++ [41]) := t0.cons.2.2
  have t2 : Stands (str (exactS A)) (1 + 4 * A.length) [41] := by have := t1.append.2; rwa [hxs_len] at this
  rw [hl]
  generalize str (exactS A) = u at *
  have hr : row (choice u 7) u 1 ⟨1, 1⟩ = .ok (rowT (A.map bT), ⟨1 + 4 * A.length, 1⟩) := by
    unfold row
    rw [hxs_parts A _ [] 1 t1 (by omega)]; rfl
  have hch : choice u 8 ⟨1, 1⟩ = .ok (exactI A, ⟨1 + 4 * A.length, 1⟩) := choice_one hr (by rw [t2.is]; decide)
  have ha : atom (choice u 8) u 0 ⟨0, 0⟩ = .ok (⟨gL 1, [exactI A]⟩, ⟨1 + 4 * A.length + 1, 1⟩) := by
    unfold atom
    simp only
    rw [t0.is 40, if_pos (by decide)]
    unfold group head
    simp only
    rw [if_neg (by omega), next_is t1 63 (by decide) (by decide), if_neg (by decide), if_neg (by omega)]
    simp only
    have e : (⟨0 + 1, (0 : Int) + 1⟩ : At) = ⟨1, 1⟩ := rfl
    rw [e, hch]
    simp only
    unfold need
    rw [t2.is, if_pos (by decide)]
    rfl
  have he : u.size = 1 + 4 * A.length + 1 := by omega
  rw [← he] at ha
  have hp : part (choice u 8) u 0 ⟨0, 0⟩ = .ok (⟨gL 1, [exactI A]⟩, ⟨u.size, 1⟩) := by
    unfold part
    rw [ha]
    simp only
    rw [count_no (is_end (Nat.le_refl _)) (is_end (Nat.le_refl _)) (is_end (Nat.le_refl _)) (is_end (Nat.le_refl _))]; rfl
  have r := row_q1 (over_is' t0.cons.2.1 t0.cons.1 (by decide) (by decide)) hp (over_end (Nat.le_refl _)) (by omega)
  have := choice_one (k := 8) r (is_end (Nat.le_refl _))
  rw [show 2 + 4 * A.length = u.size by omega]
  exact this
theorem bT_sizes : ∀ (A : List UInt8) (acc : Int), 0 ≤ acc → 0 ≤ sizes acc (A.map bT) ∧ sizes acc (A.map bT) ≤ acc + A.length
  | [], acc, h => by simp [sizes]; omega
  | x :: A, acc, h => by
    rw [List.map_cons, sizes_cons]
    have e : size (bT x) = 1 := by unfold size bT; simp only; rw [sizes]; rfl
    rw [e]
    have := bT_sizes A (min (acc + 1) 1000000) (by omega)
    simp
    omega
theorem exact_size (A : List UInt8) (hA : A.length ≤ 40) : size (exactT A) ≤ 41 := by
  have h := bT_sizes A 0 (by omega)
  have e1 : size (exactI A) = min (0 + sizes 0 (A.map bT)) 1000000 := by
    unfold exactI choiceT rowT size
    rw [sizes, sizes]
    unfold sz1 szB; simp [blank]
  have e2 : size (⟨gL 1, [exactI A]⟩ : Tr) = max (min (0 + size (exactI A)) 1000000) 1 := by
    show sz1 _ (sizes _ [exactI A]) = _
    rw [sizes_cons, sizes]
    unfold sz1 szB gL; simp [blank]
  have e3 : size (rowT [(⟨gL 1, [exactI A]⟩ : Tr)]) = min (0 + size (⟨gL 1, [exactI A]⟩ : Tr)) 1000000 := by
    show sz1 { blank with kind := 5 } (sizes 0 [(⟨gL 1, [exactI A]⟩ : Tr)]) = _
    rw [sizes_cons, sizes]
    unfold sz1; simp [blank]
  have e4 : size (exactT A) = min (0 + size (rowT [(⟨gL 1, [exactI A]⟩ : Tr)])) 1000000 := by
    show sz1 { blank with kind := 4 } (sizes 0 [rowT [(⟨gL 1, [exactI A]⟩ : Tr)]]) = _
    rw [sizes_cons, sizes]
    unfold sz1; simp [blank]
  rw [e4, e3, e2, e1]
  omega
theorem exact_read (A : List UInt8) (hA : A.length ≤ 40) : read (str (exactS A)) = .ok (exactT A, 1) := by
  have hz : (str (exactS A)).size = (exactS A).length := str_size _
  have hl : (exactS A).length = 2 + 4 * A.length := by simp [exactS, hxs_len]; omega
  unfold read
  rw [if_neg (by omega), exact_choice A]
  simp only
  rw [if_neg (by omega), if_neg (by have := exact_size A hA; omega)]

/-! A list. -/
def setOf (A : List UInt8) (f : Nat → Bool) : Nat → Bool := A.foldl (fun f x => add f x.toNat x.toNat) f
theorem item_hx {s : ByteArray} {i : Nat} {x : UInt8} {A : List UInt8} (h : Stands s i (hxs (x :: A) ++ [93])) : item s i = .ok ((x.toNat : Int), (x.toNat : Int), i + 4) := by
  have ht := h.tail4
  rw [hxs_cons] at h
  unfold item
  rw [byteBut_hex true h (by omega) (u8_le x)]
  simp only
  rw [next_is ht 45 (by decide) (by decide), if_neg (by decide)]
theorem items_hx {s : ByteArray} : ∀ (A : List UInt8) (n : Nat) (f : Nat → Bool) (i : Nat), A ≠ [] → Stands s i (hxs A ++ [93]) → A.length ≤ n → items s n f i = .ok (setOf A f, i + 4 * A.length + 1)
  | [], n, f, i, h0, h, hn => absurd rfl h0
  | x :: A, 0, f, i, h0, h, hn => by simp at hn
  | [x], n + 1, f, i, h0, h, hn => by
    rw [items, item_hx h]
    simp only
    have ht : Stands s (i + 4) [93] := h.tail4
    rw [ht.is, if_pos (by decide)]; rfl
  | x :: y :: A, n + 1, f, i, h0, h, hn => by
    rw [items, item_hx h]
    simp only
    have ht := h.tail4
    have h' := ht
    rw [hxs_cons] at h'
    rw [Stands.is h', if_neg (by decide), items_hx (y :: A) n _ (i + 4) (by simp) ht (by simp at hn ⊢; omega)]
    simp only [List.length_cons]
    congr 2; omega
def listT (A : List UInt8) (b : Bool) : Tr := ⟨{ blank with kind := 2, set := setOf A (fun _ => false), not := b }, []⟩
def listC (A : List UInt8) (b : Bool) : Tr := choiceT [rowT [listT A b]]
def listS (A : List UInt8) (b : Bool) : List UInt8 := (if b then [91, 94] else [91]) ++ hxs A ++ [93]
theorem list_choice (A : List UInt8) (b : Bool) (hA : A ≠ []) : choice (str (listS A b)) 9 ⟨0, 0⟩ = .ok (listC A b, ⟨(listS A b).length, 0⟩) := by
  have hz : (str (listS A b)).size = (listS A b).length := str_size _
  have t0 : ∃ m, Stands (str (listS A b)) 0 (91 :: m) := by
    cases b
    · exact ⟨hxs A ++ [93], Stands.of [] _ [] (by simp [listS]) rfl⟩
    · exact ⟨94 :: (hxs A ++ [93]), Stands.of [] _ [] (by simp [listS]) rfl⟩
  obtain ⟨m, t0⟩ := t0
  have hli : list (str (listS A b)) 1 = .ok (listT A b, (str (listS A b)).size) := by
    unfold list
    cases b
    · have t1 : Stands (str (listS A false)) 1 (hxs A ++ [93]) := Stands.of [91] _ [] (by simp [listS]) rfl
      simp only
      rw [next_is t1 94 (by decide) (by decide), if_neg (by decide), items_hx A _ _ 1 hA t1 (by rw [hz]; simp [listS, hxs_len]; omega)]
      simp only
      rw [show 1 + 4 * A.length + 1 = (str (listS A false)).size by rw [hz]; simp [listS, hxs_len]; omega]; rfl
    · have t1 : Stands (str (listS A true)) 1 (94 :: (hxs A ++ [93])) := Stands.of [91] _ [] (by simp [listS]) rfl
      simp only
      rw [t1.is 94, show decide (((94 : UInt8).toNat : Int) = 94) = true by decide, if_pos rfl, items_hx A _ _ (1 + 1) hA t1.cons.2.2 (by rw [hz]; simp [listS, hxs_len]; omega)]
      simp only
      rw [show 1 + 1 + 4 * A.length + 1 = (str (listS A true)).size by rw [hz]; simp [listS, hxs_len]; omega]; rfl
  rw [← hz]
  have h1 : 1 ≤ (str (listS A b)).size := by have := t0.cons.1; omega
  generalize str (listS A b) = u at *
  have ha : atom (choice u 8) u 0 ⟨0, 0⟩ = .ok (listT A b, ⟨u.size, 0⟩) := by
    unfold atom
    simp only
    rw [t0.is 40, if_neg (by decide), t0.is 91, if_pos (by decide), show 0 + 1 = 1 from rfl, hli]
  have hp : part (choice u 8) u 0 ⟨0, 0⟩ = .ok (listT A b, ⟨u.size, 0⟩) := by
    unfold part
    rw [ha]
    simp only
    rw [count_no (is_end (Nat.le_refl _)) (is_end (Nat.le_refl _)) (is_end (Nat.le_refl _)) (is_end (Nat.le_refl _))]; rfl
  have r := row_q1 (over_is' t0.cons.2.1 t0.cons.1 (by decide) (by decide)) hp (over_end (Nat.le_refl _)) h1
  exact choice_one (k := 8) r (is_end (Nat.le_refl _))
theorem list_size (A : List UInt8) (b : Bool) : size (listC A b) = 1 := by
  unfold listC choiceT rowT listT size
  simp only [sizes]
  rfl
theorem list_read (A : List UInt8) (b : Bool) (h0 : A ≠ []) (hA : A.length ≤ 40) : read (str (listS A b)) = .ok (listC A b, 0) := by
  have hz : (str (listS A b)).size = (listS A b).length := str_size _
  have hl : (listS A b).length ≤ 3 + 4 * A.length := by cases b <;> simp [listS, hxs_len] <;> omega
  unfold read
  rw [if_neg (by omega), list_choice A b h0]
  simp only
  rw [if_neg (by omega), if_neg (by rw [list_size]; omega)]
end Sp
end Go.Proofs.YtcpfpnjkfahjcaaGreatDoor

/- What escaped bytes and lists of them match: no program is named here. -/
set_option linter.unusedSimpArgs false
set_option linter.unusedVariables false
namespace Go.Proofs.YtcpfpnjkfahjcaaGreatDoor
namespace Sp

theorem Stands.nil {s : ByteArray} {i : Nat} (h : i ≤ s.size) : Stands s i [] := ⟨by simpa using h, fun k x hk => by simp at hk⟩
theorem Stands.mk {s : ByteArray} {i : Nat} {x : UInt8} {l : List UInt8} (h1 : byteAt s i = (x.toNat : Int)) (h2 : Stands s (i + 1) l) : Stands s i (x :: l) := by
  refine ⟨by have := h2.1; simp; omega, fun k y hk => ?_⟩
  cases k with
  | zero => simp at hk; subst hk; simpa using h1
  | succ k => have := h2.2 k y (by simpa using hk); rw [← this]; congr 1; omega
theorem Stands.all {s : ByteArray} {A : List UInt8} (h : Stands s 0 A) (hz : s.size = A.length) : s = str A := by
  obtain ⟨l, rfl⟩ : ∃ l, s = str l := ⟨_, (str_of s).symm⟩
  rw [str_size] at hz
  congr 1
  apply List.ext_getElem?
  intro k
  by_cases hk : k < A.length
  · have e1 : l[k]? = some l[k] := List.getElem?_eq_getElem (by omega)
    have e2 : A[k]? = some A[k] := List.getElem?_eq_getElem hk
    have h1 := h.2 k _ e2
    rw [Nat.zero_add, byteAt_str l k _ e1] at h1
    rw [e1, e2]
    congr 1
    exact UInt8.toNat_inj.mp (by omega)
  · rw [List.getElem?_eq_none (by omega), List.getElem?_eq_none (by omega)]
theorem bT_sem (s : ByteArray) (x : UInt8) : sem s (bT x) = ⟨one s (fun c => c == x.toNat), fun _ _ => []⟩ := by
  unfold sem bT node
  rw [if_pos (by show (-1 : Int) < 0; omega)]
  unfold bareSem
  rw [if_pos (by show (0 : Nat) ≤ 2; omega)]
  congr 1
  funext i j
  unfold one fits
  simp [blank]
theorem one_iff {s : ByteArray} {x : UInt8} {i j : Nat} : one s (fun c => c == x.toNat) i j = true ↔ j = i + 1 ∧ i < s.size ∧ byteAt s i = (x.toNat : Int) := by
  unfold one
  have := byteAt_lo s i
  simp
  constructor
  · rintro ⟨⟨a, b⟩, c⟩; exact ⟨a, b, by omega⟩
  · rintro ⟨a, b, c⟩; exact ⟨⟨a, b⟩, by omega⟩
theorem bytes_m {s : ByteArray} : ∀ (A : List UInt8) (i j : Nat), i ≤ s.size → (rowM (sems s (A.map bT)) i j = true ↔ j = i + A.length ∧ Stands s i A)
  | [], i, j, hi => by
    rw [List.map_nil, sems_nil, rowM]
    simp
    constructor
    · rintro rfl; exact ⟨rfl, Stands.nil hi⟩
    · rintro ⟨h, _⟩; exact h.symm
  | x :: A, i, j, hi => by
    rw [List.map_cons, sems_cons, rowM, cutB_iff, bT_sem]
    constructor
    · rintro ⟨k, k1, k2, k3, k4⟩
      obtain ⟨rfl, h1, h2⟩ := one_iff.mp k3
      obtain ⟨h3, h4⟩ := (bytes_m A (i + 1) j (by omega)).mp k4
      exact ⟨by simp; omega, Stands.mk h2 h4⟩
    · rintro ⟨h1, h2⟩
      obtain ⟨h3, h4, h5⟩ := h2.cons
      simp at h1
      exact ⟨i + 1, by omega, by omega, one_iff.mpr ⟨rfl, h3, h4⟩, (bytes_m A (i + 1) j (by omega)).mpr ⟨by omega, h5⟩⟩
theorem bytes_g {s : ByteArray} : ∀ (A : List UInt8) (i j : Nat), rowG (sems s (A.map bT)) i j = []
  | [], i, j => by rw [List.map_nil, sems_nil, rowG]
  | x :: A, i, j => by
    rw [List.map_cons, sems_cons, rowG, bT_sem]
    cases greatest (fun k => (⟨one s (fun c => c == x.toNat), fun _ _ => []⟩ : Sem).m i k && rowM (sems s (A.map bT)) k j) i j with
    | none => rfl
    | some k => simp only; rw [bytes_g A]; rfl
theorem exactI_m (s : ByteArray) (A : List UInt8) (i j : Nat) : (sem s (exactI A)).m i j = rowM (sems s (A.map bT)) i j := by
  unfold exactI
  rw [choiceT_sem, sems_cons, sems_nil]
  show choiceM _ i j = _
  rw [choice1_m, rowT_sem]
theorem exactI_g (s : ByteArray) (A : List UInt8) (i j : Nat) : (sem s (exactI A)).g i j = [] := by
  unfold exactI
  rw [choiceT_sem, sems_cons, sems_nil]
  show choiceG _ i j = _
  rw [choiceG]
  split
  · rw [rowT_sem]; exact bytes_g A i j
  · rfl
theorem groupOf_sem (s : ByteArray) (t : Tr) : sem s ⟨gL 1, [t]⟩ = ⟨choiceM [sem s t], fun i j => [(1, i, j)] ++ choiceG [sem s t] i j⟩ := by
  unfold sem node bareSem gL
  simp [blank]
  rw [sems_cons, sems_nil]; exact ⟨rfl, rfl⟩
theorem exact_m (s : ByteArray) (A : List UInt8) : (sem s (exactT A)).m 0 s.size = true ↔ s = str A := by
  have e : (sem s (exactT A)).m 0 s.size = rowM (sems s (A.map bT)) 0 s.size := by
    unfold exactT
    rw [choiceT_sem, sems_cons, sems_nil]
    show choiceM _ 0 s.size = _
    rw [choice1_m, rowT1_m, groupOf_sem]
    show choiceM _ 0 s.size = _
    rw [choice1_m, exactI_m]
  rw [e, bytes_m A 0 s.size (by omega)]
  constructor
  · rintro ⟨h1, h2⟩; exact h2.all (by omega)
  · intro h
    have hz : s.size = A.length := by rw [h, str_size]
    refine ⟨by omega, ?_⟩
    rw [h]; exact Stands.of [] _ [] (by simp) rfl
theorem exact_g (A : List UInt8) : (sem (str A) (exactT A)).g 0 A.length = [(1, 0, A.length)] := by
  have hm := (exact_m (str A) A).mpr rfl
  rw [str_size] at hm
  unfold exactT at hm ⊢
  rw [choiceT_sem, sems_cons, sems_nil] at hm ⊢
  have hm' : choiceM [sem (str A) (rowT [⟨gL 1, [exactI A]⟩])] 0 A.length = true := hm
  rw [choice1_m] at hm'
  show choiceG _ 0 A.length = _
  rw [choice1_g _ _ _ hm']
  rw [rowT1_m] at hm'
  rw [rowT1_g _ _ _ _ hm']
  rw [groupOf_sem] at hm' ⊢
  have hm2 : choiceM [sem (str A) (exactI A)] 0 A.length = true := hm'
  rw [choice1_m] at hm2
  show [(1, 0, A.length)] ++ choiceG _ 0 A.length = _
  rw [choice1_g _ _ _ hm2, exactI_g]; rfl
theorem two_spans (n k : Nat) (hk : k < 2) : spansOf [(1, 0, n)] n k = [((0 : Int), (n : Int)), (0, (n : Int))].getD k (0, 0) := by
  rcases (by omega : k = 0 ∨ k = 1) with rfl | rfl <;> rfl

theorem setOf_iff (c : Nat) : ∀ (A : List UInt8) (f : Nat → Bool), setOf A f c = true ↔ f c = true ∨ ∃ x ∈ A, x.toNat = c
  | [], f => by unfold setOf; simp
  | x :: A, f => by
    have e : setOf (x :: A) f = setOf A (add f x.toNat x.toNat) := rfl
    rw [e, setOf_iff c A]
    unfold add
    simp
    constructor
    · rintro ((h | ⟨h1, h2⟩) | h)
      · exact Or.inl h
      · exact Or.inr (Or.inl (by omega))
      · exact Or.inr (Or.inr h)
    · rintro (h | h | h)
      · exact Or.inl (Or.inl h)
      · exact Or.inl (Or.inr (by omega))
      · exact Or.inr h
/-- Is this byte among them? -/
def among (A : List UInt8) (c : Nat) : Bool := A.any fun x => x.toNat == c
theorem setOf_none (A : List UInt8) (c : Nat) : setOf A (fun _ => false) c = among A c := by
  rw [Bool.eq_iff_iff, setOf_iff]
  unfold among
  simp
theorem list_m (A : List UInt8) (b : Bool) (c : Nat) (hc : c < 256) : (sem (str [u8 c]) (listC A b)).m 0 (str [u8 c]).size = (among A c != b) := by
  have hz : (str [u8 c]).size = 1 := rfl
  have hb : byteAt (str [u8 c]) 0 = c := by
    rw [byteAt_str [u8 c] 0 (u8 c) rfl]; exact u8_toNat (by omega) (by omega)
  unfold listC
  rw [choiceT_sem, sems_cons, sems_nil, hz]
  show choiceM _ 0 1 = _
  have e : sem (str [u8 c]) (listT A b) = ⟨one (str [u8 c]) (fits (listT A b).lab), fun _ _ => []⟩ := by
    unfold sem node
    rw [if_pos (show (listT A b).lab.min < 0 by show (-1 : Int) < 0; omega)]
    unfold bareSem
    rw [if_pos (show (listT A b).lab.kind ≤ 2 by show (2 : Nat) ≤ 2; omega)]
  have ef : fits (listT A b).lab c = (among A c != b) := by rw [← setOf_none]; rfl
  rw [choice1_m, rowT1_m, e]
  show one (str [u8 c]) (fits (listT A b).lab) 0 1 = _
  unfold one
  rw [hb, hz]
  simp [ef]
end Sp
end Go.Proofs.YtcpfpnjkfahjcaaGreatDoor

/- What is printed is read back: bytes, counts: no program is named here. -/
set_option linter.unusedSimpArgs false
set_option linter.unusedVariables false
namespace Go.Proofs.YtcpfpnjkfahjcaaGreatDoor
namespace Sp

/-- No count begins here. -/
def Calm (s : ByteArray) (i : Nat) : Prop := isAt s i 42 = false ∧ isAt s i 43 = false ∧ isAt s i 63 = false ∧ isAt s i 123 = false
/-- This may stand first in a part. -/
def First (x : UInt8) : Prop := (x.toNat : Int) ≠ 42 ∧ (x.toNat : Int) ≠ 43 ∧ (x.toNat : Int) ≠ 63 ∧ (x.toNat : Int) ≠ 123 ∧ (x.toNat : Int) ≠ 124 ∧ (x.toNat : Int) ≠ 41
instance (x : UInt8) : Decidable (First x) := by unfold First; infer_instance
theorem Calm.of {s : ByteArray} {i : Nat} {x : UInt8} {l : List UInt8} (h : Stands s i (x :: l)) (hx : First x) : Calm s i := by
  obtain ⟨a, b, c, d, _, _⟩ := hx
  refine ⟨?_, ?_, ?_, ?_⟩ <;> rw [h.is] <;> simp <;> assumption
theorem over_cases {s : ByteArray} {i : Nat} (h : over s i = true) : s.size ≤ i ∨ isAt s i 124 = true ∨ isAt s i 41 = true := by
  unfold over at h; simp at h
  rcases h with (h | h) | h
  · exact Or.inl h
  · exact Or.inr (Or.inl h)
  · exact Or.inr (Or.inr h)
theorem isAt_other {s : ByteArray} {i : Nat} {c d : Int} (h : isAt s i c = true) (hd : c ≠ d) : isAt s i d = false := by
  unfold isAt at h ⊢
  simp at h ⊢
  intro q; rw [h.2]; exact hd
theorem Calm.over {s : ByteArray} {i : Nat} (h : over s i = true) : Calm s i := by
  rcases over_cases h with h | h | h
  · exact ⟨is_end h, is_end h, is_end h, is_end h⟩
  · exact ⟨isAt_other h (by decide), isAt_other h (by decide), isAt_other h (by decide), isAt_other h (by decide)⟩
  · exact ⟨isAt_other h (by decide), isAt_other h (by decide), isAt_other h (by decide), isAt_other h (by decide)⟩
theorem over_first {s : ByteArray} {i : Nat} {x : UInt8} {l : List UInt8} (h : Stands s i (x :: l)) (hx : First x) : over s i = false := over_is' h.cons.2.1 h.cons.1 hx.2.2.2.2.1 hx.2.2.2.2.2

/-- A byte as it is shown. -/
theorem sign_list {c : Int} (h : sign c = true) : listSign c = true := by unfold listSign; simp [h]
theorem sign_range {c : Int} (h : listSign c = true) : 40 ≤ c ∧ c ≤ 125 := by
  unfold listSign sign at h
  simp at h
  omega
theorem shown_back {s : ByteArray} {i : Nat} {c : Int} (b : Bool) {l : List UInt8} (h : Stands s i (shown c b ++ l)) (h0 : 0 ≤ c) (h1 : c ≤ 255) : byteBut b s i = .ok (c, i + (shown c b).length) := by
  unfold shown at h ⊢
  split at h
  · rename_i q; subst q
    have h' : Stands s i (92 :: 110 :: l) := h
    rw [if_pos rfl]
    unfold byteBut
    rw [h'.is 92, if_pos (by decide)]
    unfold escape
    rw [if_pos h'.cons.2.2.cons.1, h'.cons.2.2.cons.2.1, if_pos (by decide)]; rfl
  · rename_i q1
    rw [if_neg q1]
    split at h
    · rename_i q; subst q
      have h' : Stands s i (92 :: 116 :: l) := h
      rw [if_pos rfl]
      unfold byteBut
      rw [h'.is 92, if_pos (by decide)]
      unfold escape
      rw [if_pos h'.cons.2.2.cons.1, h'.cons.2.2.cons.2.1, if_neg (by decide), if_pos (by decide)]; rfl
    · rename_i q2
      rw [if_neg q2]
      split at h
      · rename_i q3
        rw [if_pos q3]
        have h' : Stands s i (92 :: 120 :: hexB (c / 16) :: hexB (c % 16) :: l) := h
        rw [byteBut_hex b h' h0 h1]; rfl
      · rename_i q3
        rw [if_neg q3]
        have e := u8_toNat h0 h1
        by_cases q4 : (if b then listSign c else sign c) = true
        · rw [if_pos q4] at h ⊢
          have h' : Stands s i (92 :: u8 c :: l) := h
          have hl : listSign c = true := by
            cases b
            · exact sign_list q4
            · exact q4
          have hr := sign_range hl
          unfold byteBut
          rw [h'.is 92, if_pos (by decide)]
          unfold escape
          rw [if_pos h'.cons.2.2.cons.1, h'.cons.2.2.cons.2.1, e, if_neg (by intro q; subst q; revert hl; decide), if_neg (by intro q; subst q; revert hl; decide), if_neg (by intro q; subst q; revert hl; decide), if_pos hl]; rfl
        · rw [if_neg q4] at h ⊢
          have h' : Stands s i (u8 c :: l) := h
          rw [byteBut_plain b h' (by rw [e]; exact Bool.eq_false_iff.mpr q4), e]; rfl
/-- What a byte that is shown begins with. -/
theorem shown_cons (c : Int) (b : Bool) (h0 : 0 ≤ c) (h1 : c ≤ 255) : ∃ x r, shown c b = x :: r ∧ (x = 92 ∨ ((x.toNat : Int) = c ∧ (if b then listSign c else sign c) = false)) := by
  unfold shown
  split
  · exact ⟨_, _, rfl, Or.inl rfl⟩
  · split
    · exact ⟨_, _, rfl, Or.inl rfl⟩
    · split
      · exact ⟨_, _, rfl, Or.inl rfl⟩
      · by_cases q : (if b then listSign c else sign c) = true
        · rw [if_pos q]; exact ⟨_, _, rfl, Or.inl rfl⟩
        · rw [if_neg q]
          exact ⟨_, _, rfl, Or.inr ⟨u8_toNat h0 h1, Bool.eq_false_iff.mpr q⟩⟩
theorem First.plain {x : UInt8} {c : Int} (e : (x.toNat : Int) = c) (h : sign c = false) : First x := by
  unfold First
  rw [e]
  refine ⟨?_, ?_, ?_, ?_, ?_, ?_⟩ <;> (intro q; subst q; revert h; decide)
theorem shown_first (c : Int) (h0 : 0 ≤ c) (h1 : c ≤ 255) : ∃ x r, shown c false = x :: r ∧ First x ∧ (x.toNat : Int) ≠ 40 ∧ (x.toNat : Int) ≠ 91 ∧ (x.toNat : Int) ≠ 46 := by
  obtain ⟨x, r, e, h | ⟨h, k⟩⟩ := shown_cons c false h0 h1
  · subst h; exact ⟨_, r, e, by decide, by decide, by decide, by decide⟩
  · have k' : sign c = false := k
    refine ⟨x, r, e, First.plain h k', ?_, ?_, ?_⟩ <;> (rw [h]; intro q; subst q; revert k'; decide)

/-- A count. -/
theorem bounds_one {s : ByteArray} {i : Nat} {m : Int} {l : List UInt8} (h : Stands s i (digs m ++ 125 :: l)) (h0 : 0 ≤ m) (h2 : m ≤ 20) : bounds s i = .ok (m, m, i + (digs m).length + 1) := by
  obtain ⟨a1, a2⟩ := h.append
  have hn1 : number 0 s i = .ok (m, i + (digs m).length) := number_st h h0 h2 h0 (digit_no a2 (Or.inr (by decide)))
  unfold bounds
  rw [hn1]
  simp only
  rw [a2.is 44, if_neg (by decide)]
  unfold need
  rw [a2.is 125, if_pos (by decide)]
theorem bounds_open {s : ByteArray} {i : Nat} {m : Int} {l : List UInt8} (h : Stands s i (digs m ++ 44 :: 125 :: l)) (h0 : 0 ≤ m) (h2 : m ≤ 20) : bounds s i = .ok (m, -1, i + (digs m).length + 2) := by
  obtain ⟨a1, a2⟩ := h.append
  have hn1 : number 0 s i = .ok (m, i + (digs m).length) := number_st h h0 h2 h0 (digit_no a2 (Or.inl (by decide)))
  have a3 := a2.cons.2.2
  unfold bounds
  rw [hn1]
  simp only
  rw [a2.is 44, if_pos (by decide), digit_no a3 (Or.inr (by decide)), if_neg (by decide)]
  unfold need
  rw [a3.is 125, if_pos (by decide)]
theorem count_open {s : ByteArray} {i : Nat} {l : List UInt8} (h : Stands s i (123 :: l)) : count s i = bounds s (i + 1) := by
  unfold count
  rw [h.is 42, if_neg (by decide), h.is 43, if_neg (by decide), h.is 63, if_neg (by decide), h.is 123, if_pos (by decide)]
theorem cnt_back {s : ByteArray} {i : Nat} (a : Lab) (h : Stands s i (cnt a)) (h1 : (a.min < 0 → a.min = -1 ∧ a.max = 0) ∧ (0 ≤ a.min → a.max = -1 ∨ a.min ≤ a.max)) (h2 : a.min ≤ 20) (h3 : a.max ≤ 20) (hc : Calm s (i + (cnt a).length)) : count s i = .ok (a.min, a.max, i + (cnt a).length) := by
  unfold cnt at h hc ⊢
  split at h
  · rename_i q
    rw [if_pos q] at hc ⊢
    obtain ⟨e1, e2⟩ := h1.1 q
    rw [e1, e2]
    exact count_no hc.1 hc.2.1 hc.2.2.1 hc.2.2.2
  · rename_i q
    clear hc
    have h1 := h1.2 (by omega)
    rw [if_neg q]
    split at h
    · rename_i q2
      rw [if_pos q2]
      rw [count_star (by rw [h.is]; decide)]
      have : a.max = -1 := by omega
      rw [this, q2.1]; rfl
    · rename_i q2
      rw [if_neg q2]
      split at h
      · rename_i q3
        rw [if_pos q3]
        unfold count
        rw [h.is 42, if_neg (by decide), h.is 43, if_pos (by decide)]
        have : a.max = -1 := by omega
        rw [this, q3.1]; rfl
      · rename_i q3
        rw [if_neg q3]
        split at h
        · rename_i q4
          rw [if_pos q4]
          unfold count
          rw [h.is 42, if_neg (by decide), h.is 43, if_neg (by decide), h.is 63, if_pos (by decide), q4.1, q4.2]; rfl
        · rename_i q4
          rw [if_neg q4]
          split at h
          · rename_i q5
            rw [if_pos q5]
            have h' : Stands s i (123 :: (digs a.min ++ 44 :: 125 :: [])) := by simpa using h
            rw [count_open h', bounds_open h'.cons.2.2 (by omega) h2]
            have : a.max = -1 := by omega
            rw [this]; simp; omega
          · rename_i q5
            rw [if_neg q5]
            split at h
            · rename_i q6
              rw [if_pos q6]
              have h' : Stands s i (123 :: (digs a.min ++ 125 :: [])) := by simpa using h
              rw [count_open h', bounds_one h'.cons.2.2 (by omega) h2, ← q6]; simp; omega
            · rename_i q6
              rw [if_neg q6]
              have h' : Stands s i (123 :: (digs a.min ++ 44 :: (digs a.max ++ 125 :: []))) := by simpa using h
              rw [count_brace h' (by omega) (by omega) h3]; simp; omega
end Sp
end Go.Proofs.YtcpfpnjkfahjcaaGreatDoor

/- What is printed is read back: lists: no program is named here. -/
set_option linter.unusedSimpArgs false
set_option linter.unusedVariables false
namespace Go.Proofs.YtcpfpnjkfahjcaaGreatDoor
namespace Sp

/-- It begins with what an item may begin with, or is empty. -/
def LF (l : List UInt8) : Prop := l = [] ∨ ∃ x r, l = x :: r ∧ (x = 92 ∨ listSign (x.toNat : Int) = false)
theorem shown_lf (c : Nat) (hc : c < 256) (m : List UInt8) : ∃ x r, shown c true ++ m = x :: r ∧ (x = 92 ∨ listSign (x.toNat : Int) = false) := by
  obtain ⟨x, r, e, h | ⟨h, k⟩⟩ := shown_cons c true (by omega) (by omega)
  · exact ⟨x, r ++ m, by rw [e]; rfl, Or.inl h⟩
  · exact ⟨x, r ++ m, by rw [e]; rfl, Or.inr (by rw [h]; exact k)⟩
theorem piece_lf (c l : Nat) (hc : c < 256) (m : List UInt8) : ∃ x r, piece c l ++ m = x :: r ∧ (x = 92 ∨ listSign (x.toNat : Int) = false) := by
  unfold piece
  split
  · exact shown_lf c hc m
  · split
    · rw [List.append_assoc]; exact shown_lf c hc _
    · rw [List.append_assoc, List.append_assoc]; exact shown_lf c hc _
theorem listedFrom_lf (f : Nat → Bool) : ∀ m c, LF (listedFrom f m c)
  | 0, c => Or.inl rfl
  | m + 1, c => by
    unfold listedFrom
    split
    · split
      · exact Or.inr (piece_lf c _ (by omega) _)
      · exact listedFrom_lf f m (c + 1)
    · exact Or.inl rfl
theorem lf_is {s : ByteArray} {i : Nat} {x : UInt8} {r : List UInt8} (h : Stands s i (x :: r)) (hx : x = 92 ∨ listSign (x.toNat : Int) = false) {c : Int} (hc : listSign c = true) (h92 : c ≠ 92) : isAt s i c = false := by
  rw [h.is]
  rcases hx with rfl | hx
  · simp; exact fun q => h92 q.symm
  · simp; intro q; rw [q, hc] at hx; cases hx
/-- What comes behind an item does not go on with it. -/
theorem lf_next {s : ByteArray} {i : Nat} {l : List UInt8} (h : Stands s i (l ++ [93])) (hl : LF l) {c : Int} (hc : listSign c = true) (h92 : c ≠ 92) (h93 : c ≠ 93) : isAt s i c = false := by
  rcases hl with rfl | ⟨x, r, rfl, hx⟩
  · have h' : Stands s i [93] := h
    rw [h'.is]; simp; exact fun q => h93 q.symm
  · exact lf_is (r := r ++ [93]) h hx hc h92
/-- Items, or what ends them. -/
def cont (s : ByteArray) (n : Nat) (g : Nat → Bool) (j : Nat) : Res ((Nat → Bool) × Nat) := if isAt s j 93 then .ok (g, j + 1) else items s n g j
theorem items_cont {s : ByteArray} {n : Nat} {g : Nat → Bool} {i j : Nat} {a b : Int} (h : item s i = .ok (a, b, j)) : items s (n + 1) g i = cont s n (add g a b) j := by
  rw [items, h]; rfl
theorem cont_go {s : ByteArray} {n : Nat} {g : Nat → Bool} {j : Nat} (h : isAt s j 93 = false) : cont s n g j = items s n g j := by unfold cont; rw [h]; rfl
theorem item_single {s : ByteArray} {i : Nat} {c : Nat} {l : List UInt8} (hc : c < 256) (h : Stands s i (shown c true ++ l)) (hn : isAt s (i + (shown c true).length) 45 = false) : item s i = .ok ((c : Int), (c : Int), i + (shown c true).length) := by
  unfold item
  rw [shown_back true h (by omega) (by omega)]
  simp only
  rw [hn, if_neg (by decide)]
theorem item_range {s : ByteArray} {i : Nat} {c d : Nat} {l : List UInt8} (hc : c ≤ d) (hd : d < 256) (h : Stands s i (shown c true ++ (45 :: (shown d true ++ l)))) : item s i = .ok ((c : Int), (d : Int), i + (shown c true).length + 1 + (shown d true).length) := by
  have h2 := h.append.2
  unfold item
  rw [shown_back true h (by omega) (by omega)]
  simp only
  rw [h2.is, if_pos (by decide), shown_back true h2.cons.2.2 (by omega) (by omega)]
  simp only
  rw [if_neg (by omega)]
theorem shown_pos (c : Int) (b : Bool) : 0 < (shown c b).length := by unfold shown; (repeat' split) <;> simp
/-- A piece. -/
theorem piece_back {s : ByteArray} {i : Nat} {c d : Nat} {l : List UInt8} (hc : c ≤ d) (hd : d < 256) (h : Stands s i (piece c d ++ (l ++ [93]))) (hl : LF l) (n : Nat) (hn : (piece c d).length ≤ n) (g : Nat → Bool) : ∃ n', n ≤ n' + (piece c d).length ∧ items s n g i = cont s n' (add g c d) (i + (piece c d).length) := by
  have p1 := shown_pos c true
  have p2 := shown_pos d true
  unfold piece at h hn ⊢
  by_cases h1 : d = c
  · rw [if_pos h1] at h hn ⊢
    subst h1
    obtain ⟨k, rfl⟩ : ∃ k, n = k + 1 := ⟨n - 1, by omega⟩
    exact ⟨k, by omega, items_cont (item_single hd h (lf_next h.append.2 hl (by decide) (by decide) (by decide)))⟩
  · rw [if_neg h1] at h hn ⊢
    by_cases h2 : d = c + 1
    · rw [if_pos h2] at h hn ⊢
      rw [List.length_append] at hn
      obtain ⟨n', rfl⟩ : ∃ k, n = k + 2 := ⟨n - 2, by omega⟩
      refine ⟨n', by rw [List.length_append]; omega, ?_⟩
      rw [List.append_assoc] at h
      have k := h.append.2
      obtain ⟨x, r, e, hx⟩ := shown_lf d hd (l ++ [93])
      have k' := k
      rw [e] at k'
      rw [items_cont (item_single (by omega) h (lf_is k' hx (by decide) (by decide))), cont_go (lf_is k' hx (by decide) (by decide)), items_cont (item_single hd k (lf_next k.append.2 hl (by decide) (by decide) (by decide)))]
      have e2 : add (add g c c) d d = add g c d := by
        funext x
        unfold add
        rw [Bool.eq_iff_iff]
        simp
        constructor
        · rintro ((h | h) | h)
          · exact Or.inl h
          · exact Or.inr ⟨by omega, by omega⟩
          · exact Or.inr ⟨by omega, by omega⟩
        · rintro (h | ⟨h3, h4⟩)
          · exact Or.inl (Or.inl h)
          · by_cases h5 : x = c
            · exact Or.inl (Or.inr ⟨by omega, by omega⟩)
            · exact Or.inr ⟨by omega, by omega⟩
      rw [e2, List.length_append, Nat.add_assoc]
    · rw [if_neg h2] at h hn ⊢
      obtain ⟨k, rfl⟩ : ∃ k, n = k + 1 := ⟨n - 1, by simp at hn; omega⟩
      refine ⟨k, by simp; omega, ?_⟩
      have h' : Stands s i (shown c true ++ (45 :: (shown d true ++ (l ++ [93])))) := by simpa using h
      rw [items_cont (item_range hc hd h')]
      simp
      congr 1; omega
theorem runLast_in (f : Nat → Bool) : ∀ n c x, c < x → x ≤ runLast f n c → f x = true
  | 0, c, x, h1, h2 => by simp [runLast] at h2; omega
  | n + 1, c, x, h1, h2 => by
    unfold runLast at h2
    split at h2
    · rename_i q
      by_cases hx : x = c + 1
      · rw [hx]; exact q.2
      · exact runLast_in f n (c + 1) x (by omega) h2
    · omega
def from_ (f : Nat → Bool) (c : Nat) (g : Nat → Bool) : Nat → Bool := fun x => g x || (decide (c ≤ x) && decide (x < 256) && f x)
theorem listed_back {s : ByteArray} (f : Nat → Bool) : ∀ (m c n : Nat) (g : Nat → Bool) (i : Nat), 256 - c < m → (listedFrom f m c).length ≤ n → Stands s i (listedFrom f m c ++ [93]) → cont s n g i = .ok (from_ f c g, i + (listedFrom f m c).length + 1)
  | 0, c, n, g, i, hm, _, _ => by omega
  | m + 1, c, n, g, i, hm, hn, h => by
    unfold listedFrom at h hn ⊢
    by_cases h1 : c < 256
    · rw [if_pos h1] at h hn ⊢
      by_cases h2 : f c = true
      · rw [if_pos h2] at h hn ⊢
        have hge := runLast_ge f 256 c
        have hle := runLast_le f 256 c (by omega)
        have hin := runLast_in f 256 c
        generalize runLast f 256 c = L at *
        rw [List.append_assoc] at h
        obtain ⟨x, r, e, hx⟩ := piece_lf c L h1 (listedFrom f m (L + 1) ++ [93])
        have k := h
        rw [e] at k
        rw [cont_go (lf_is k hx (by decide) (by decide))]
        have e3 : from_ f (L + 1) (add g c L) = from_ f c g := by
          funext x
          unfold from_ add
          rw [Bool.eq_iff_iff]
          simp
          constructor
          · rintro ((h | h) | h)
            · exact Or.inl h
            · refine Or.inr ⟨⟨by omega, by omega⟩, ?_⟩
              by_cases hc : x = c
              · rw [hc]; exact h2
              · exact hin x (by omega) (by omega)
            · exact Or.inr ⟨⟨by omega, h.1.2⟩, h.2⟩
          · rintro (h | ⟨⟨h3, h4⟩, h5⟩)
            · exact Or.inl (Or.inl h)
            · by_cases h6 : x ≤ L
              · exact Or.inl (Or.inr ⟨by omega, by omega⟩)
              · exact Or.inr ⟨⟨by omega, h4⟩, h5⟩
        rw [List.length_append] at hn
        obtain ⟨n', hn', q⟩ := piece_back hge (by omega) h (listedFrom_lf f m (L + 1)) n (by omega) g
        rw [q, listed_back f m (L + 1) n' _ _ (by omega) (by omega) h.append.2, e3, List.length_append, Nat.add_assoc i]
      · rw [if_neg h2] at h hn ⊢
        rw [listed_back f m (c + 1) n g i (by omega) hn h]
        have e3 : from_ f (c + 1) g = from_ f c g := by
          funext x
          unfold from_
          rw [Bool.eq_iff_iff]
          simp
          constructor
          · rintro (h | h)
            · exact Or.inl h
            · exact Or.inr ⟨⟨by omega, h.1.2⟩, h.2⟩
          · rintro (h | h)
            · exact Or.inl h
            · refine Or.inr ⟨⟨?_, h.1.2⟩, h.2⟩
              by_cases hc : x = c
              · rw [hc] at h; exact absurd h.2 h2
              · omega
        rw [e3]
    · rw [if_neg h1] at h ⊢
      have h' : Stands s i [93] := h
      unfold cont
      rw [h'.is, if_pos (by decide)]
      have e3 : from_ f c g = g := by
        funext x
        unfold from_
        rw [Bool.eq_iff_iff]
        simp
        omega
      rw [e3]; rfl
theorem listed_full (f : Nat → Bool) (c : Nat) (hc : c < 256) (hf : f c = true) : listed f ≠ [] := by
  intro h
  unfold listed at h
  have k : Stands (str [93]) 0 (listedFrom f 257 0 ++ [93]) := by rw [h]; exact Stands.of [] _ [] rfl rfl
  have q := listed_back f 257 0 0 (fun _ => false) 0 (by omega) (by rw [h]; simp) k
  have k' : Stands (str [93]) 0 [93] := Stands.of [] _ [] rfl rfl
  unfold cont at q
  rw [k'.is, if_pos (by decide)] at q
  have q' : (fun _ => false) = from_ f 0 (fun _ => false) := by
    injection q with q; injection q
  have := congrFun q' c
  unfold from_ at this
  simp [hc, hf] at this
/-- A list, behind its bracket. -/
theorem list_back {s : ByteArray} {i : Nat} (f : Nat → Bool) (b : Bool) {c : Nat} (hc : f c = true) (hf : ∀ x, f x = true → x < 256) (h : Stands s i ((if b then [94] else []) ++ (listed f ++ [93]))) : list s i = .ok (⟨{ blank with kind := 2, set := f, not := b }, []⟩, i + (if b then 1 else 0) + (listed f).length + 1) := by
  have hne := listed_full f c (hf c hc) hc
  have hlf : LF (listed f) := listedFrom_lf f 257 0
  have ef : from_ f 0 (fun _ => false) = f := by
    funext x
    unfold from_
    rw [Bool.eq_iff_iff]
    simp
    exact fun h => hf x h
  have key : ∀ j, Stands s j (listed f ++ [93]) → items s (s.size + 1) (fun _ => false) j = .ok (f, j + (listed f).length + 1) := fun j hj => by
    rcases hlf with q | ⟨x, r, q, hx⟩
    · exact absurd q hne
    · have hj' := hj
      rw [q] at hj'
      have z := hj.1
      rw [List.length_append] at z
      rw [← cont_go (lf_is (r := r ++ [93]) hj' hx (by decide) (by decide)), listed_back f 257 0 _ _ j (by omega) (by show (listed f).length ≤ _; omega) hj, ef]; rfl
  unfold list
  cases b
  · have h' : Stands s i (listed f ++ [93]) := h
    simp only
    rw [lf_next h' hlf (c := 94) (by decide) (by decide) (by decide), if_neg (by decide), key i h']; rfl
  · have h' : Stands s i (94 :: (listed f ++ [93])) := h
    simp only
    rw [h'.is, show decide (((94 : UInt8).toNat : Int) = 94) = true by decide, if_pos rfl, key (i + 1) h'.cons.2.2]; rfl
end Sp
end Go.Proofs.YtcpfpnjkfahjcaaGreatDoor

/- What is printed is read back: parts, rows, choices: no program is named here. -/
set_option linter.unusedSimpArgs false
set_option linter.unusedVariables false
namespace Go.Proofs.YtcpfpnjkfahjcaaGreatDoor
namespace Sp

theorem item_lo {s : ByteArray} {i j : Nat} {a b : Int} (h : item s i = .ok (a, b, j)) : 0 ≤ a ∧ a ≤ b := by
  unfold item at h
  cases h1 : byteBut true s i with
  | error f => simp [h1] at h
  | ok p =>
    obtain ⟨v, k⟩ := p
    have hv := byteBut_ok h1
    rw [h1] at h; simp only at h
    split at h
    · cases h2 : byteBut true s (k + 1) with
      | error f => rw [h2] at h; cases h
      | ok p =>
        obtain ⟨c, e⟩ := p
        rw [h2] at h; simp only at h
        split at h
        · cases h
        · cases h; exact ⟨hv.1, by omega⟩
    · cases h; exact ⟨hv.1, by omega⟩
theorem items_full {s : ByteArray} : ∀ {n : Nat} {f : Nat → Bool} {i : Nat} {f' : Nat → Bool} {j : Nat}, items s n f i = .ok (f', j) → ∃ c, f' c = true
  | 0, _, _, _, _, h => by cases h
  | n + 1, f, i, f', j, h => by
    unfold items at h
    cases h1 : item s i with
    | error e => rw [h1] at h; cases h
    | ok p =>
      obtain ⟨a, b, k⟩ := p
      have := item_lo h1
      rw [h1] at h; simp only at h
      split at h
      · cases h
        refine ⟨a.toNat, ?_⟩
        unfold add
        simp
        right; omega
      · exact items_full h

/-- It does not begin with a question mark. -/
def NoQ (l : List UInt8) : Prop := l = [] ∨ ∃ z r, l = z :: r ∧ (z.toNat : Int) ≠ 63
/-- What f reads is read back by F, as it is printed. -/
def BackF (f : At → Res (Tr × At)) (F : ByteArray → At → Res (Tr × At)) : Prop := ∀ x t y, 0 ≤ x.t → f x = .ok (t, y) →
  0 ≤ y.t ∧ NoQ (text t) ∧ ∀ s i, Stands s i (text t) → over s (i + (text t).length) = true → isAt s (i + (text t).length) 124 = false → F s ⟨i, x.t⟩ = .ok (t, ⟨i + (text t).length, y.t⟩)
structure AtomB (F : ByteArray → At → Res (Tr × At)) (d : Nat) (c : Int) (t : Tr) (c' : Int) : Prop where
  nn : 0 ≤ c'
  fst : ∃ z r, bareT t = z :: r ∧ First z
  back : ∀ s i, Stands s i (bareT t) → atom (F s) s d ⟨i, c⟩ = .ok (t, ⟨i + (bareT t).length, c'⟩)
theorem texts_one (b : Bool) (t : Tr) : texts b true [t] = text t := by rw [texts_cons]; simp [texts]
theorem group_back {f : At → Res (Tr × At)} {F : ByteArray → At → Res (Tr × At)} (hF : BackF f F) {u : ByteArray} {d : Nat} {x y : At} {t : Tr} (hx : 0 ≤ x.t) (h : group f u d x = .ok (t, y)) : AtomB F d x.t t y.t := by
  unfold group at h
  cases h1 : head u d x with
  | error e => rw [h1] at h; cases h
  | ok p =>
    obtain ⟨k, y1⟩ := p
    rw [h1] at h; simp only at h
    cases h2 : f y1 with
    | error e => rw [h2] at h; cases h
    | ok p =>
      obtain ⟨t', z⟩ := p
      rw [h2] at h; simp only at h
      cases h3 : need 41 u z.i with
      | error e => rw [h3] at h; cases h
      | ok j =>
        rw [h3] at h; cases h
        have hb : bareT ⟨{ blank with kind := 3, told := decide (k ≠ 0), num := k }, [t']⟩ = (if decide (k ≠ 0) then [40] else [40, 63, 58]) ++ text t' ++ [41] := by
          unfold bareT bare1
          simp only
          rw [if_neg (by decide), if_neg (by decide), if_neg (by decide), if_pos trivial]; exact congrArg (fun w => _ ++ w ++ [41]) (texts_one false t')
        unfold head at h1
        split at h1
        · cases h1
        · rename_i hd
          split at h1
          · cases h4 : need 58 u (x.i + 2) with
            | error e => rw [h4] at h1; cases h1
            | ok j4 =>
              rw [h4] at h1; cases h1
              obtain ⟨b1, b2, b3⟩ := hF ⟨j4, x.t⟩ _ _ hx h2
              have hb' : bareT ⟨{ blank with kind := 3, told := decide ((0 : Nat) ≠ 0), num := 0 }, [t']⟩ = 40 :: 63 :: 58 :: (text t' ++ [41]) := by rw [hb]; rfl
              refine ⟨b1, ⟨_, _, hb', by decide⟩, fun s i hs => ?_⟩
              rw [hb'] at hs ⊢
              have s1 := hs.cons.2.2
              have s2 := s1.cons.2.2
              have s3 := s2.cons.2.2
              have s4 := s3.append.2
              unfold atom
              simp only
              rw [hs.is, if_pos (by decide)]
              unfold group head
              simp only
              rw [if_neg hd, s1.is, if_pos (by decide)]
              unfold need
              rw [show i + 2 = i + 1 + 1 from rfl, s2.is, if_pos (by decide)]
              simp only
              have q := b3 s (i + 1 + 1 + 1) s3.append.1 (over_shut s4.cons.2.1 s4.cons.1) (by rw [s4.is]; decide)
              simp only at q
              rw [q]
              simp only
              rw [s4.is, if_pos (by decide)]
              simp only [List.length_cons, List.length_append, List.length_nil]
              rw [show i + 1 + 1 + 1 + (text t').length + 1 = i + ((text t').length + (0 + 1) + 1 + 1 + 1) by omega]
          · rename_i hq
            split at h1
            · cases h1
            · rename_i h9
              cases h1
              have hk : (x.t + 1).toNat ≠ 0 := by omega
              obtain ⟨b1, b2, b3⟩ := hF ⟨_, x.t + 1⟩ _ _ (by show 0 ≤ x.t + 1; omega) h2
              have hb' : bareT ⟨{ blank with kind := 3, told := decide ((x.t + 1).toNat ≠ 0), num := (x.t + 1).toNat }, [t']⟩ = 40 :: (text t' ++ [41]) := by rw [hb, decide_eq_true hk]; rfl
              refine ⟨b1, ⟨_, _, hb', by decide⟩, fun s i hs => ?_⟩
              rw [hb'] at hs ⊢
              have s1 := hs.cons.2.2
              have s4 := s1.append.2
              have hq' : isAt s (i + 1) 63 = false := by
                rcases b2 with q | ⟨z', r, q, hz⟩
                · have s1' : Stands s (i + 1) [41] := by rw [q] at s1; exact s1
                  rw [s1'.is]; decide
                · have s1' : Stands s (i + 1) (z' :: (r ++ [41])) := by rw [q] at s1; exact s1
                  rw [s1'.is]; simpa using hz
              unfold atom
              simp only
              rw [hs.is, if_pos (by decide)]
              unfold group head
              simp only
              rw [if_neg hd, hq', if_neg (by decide), if_neg h9]
              simp only
              have q := b3 s (i + 1) s1.append.1 (over_shut s4.cons.2.1 s4.cons.1) (by rw [s4.is]; decide)
              simp only at q
              rw [q]
              simp only
              unfold need
              rw [s4.is, if_pos (by decide)]
              simp only [List.length_cons, List.length_append, List.length_nil]
              rw [show i + 1 + (text t').length + 1 = i + ((text t').length + (0 + 1) + 1) by omega]
theorem atom_back {f : At → Res (Tr × At)} {F : ByteArray → At → Res (Tr × At)} (hF : BackF f F) {u : ByteArray} {d : Nat} {x y : At} {t : Tr} (hx : 0 ≤ x.t) (h : atom f u d x = .ok (t, y)) : AtomB F d x.t t y.t := by
  unfold atom at h
  split at h
  · exact group_back hF hx h
  · split at h
    · cases h1 : list u (x.i + 1) with
      | error e => rw [h1] at h; cases h
      | ok p =>
        obtain ⟨t', j⟩ := p
        rw [h1] at h; cases h
        unfold list at h1
        simp only at h1
        cases h2 : items u (u.size + 1) (fun _ => false) (if isAt u (x.i + 1) 94 = true then x.i + 1 + 1 else x.i + 1) with
        | error e => simp only [h2] at h1; cases h1
        | ok p =>
          obtain ⟨set, k⟩ := p
          simp only [h2] at h1; cases h1
          have hup := items_up h2 (fun c hc => by cases hc)
          obtain ⟨c, hc⟩ := items_full h2
          generalize isAt u (x.i + 1) 94 = b at *
          have hb : bareT ⟨{ blank with kind := 2, set := set, not := b }, []⟩ = 91 :: ((if b then [94] else []) ++ (listed set ++ [93])) := by
            unfold bareT bare1
            simp only
            rw [if_neg (by decide), if_neg (by decide), if_pos trivial]
            cases b <;> simp
          refine ⟨hx, ⟨_, _, hb, by decide⟩, fun s i hs => ?_⟩
          rw [hb] at hs ⊢
          unfold atom
          simp only
          rw [hs.is, if_neg (by decide), hs.is, if_pos (by decide), list_back set b hc hup hs.cons.2.2]
          simp only
          congr 3
          cases b <;> simp <;> omega
    · split at h
      · cases h
        have hb : bareT ⟨{ blank with kind := 1, set := fun c => c == 10, not := true }, []⟩ = [46] := by
          unfold bareT bare1; simp only; rw [if_pos trivial]
        refine ⟨hx, ⟨_, _, hb, by decide⟩, fun s i hs => ?_⟩
        rw [hb] at hs ⊢
        unfold atom
        simp only
        rw [hs.is, if_neg (by decide), hs.is, if_neg (by decide), hs.is, if_pos (by decide)]; rfl
      · cases h1 : byteBut false u x.i with
        | error e => rw [h1] at h; cases h
        | ok p =>
          obtain ⟨b, j⟩ := p
          have hv := byteBut_ok h1
          rw [h1] at h; cases h
          have hb : bareT ⟨{ blank with kind := 0, byte := b.toNat, set := fun c => c == b.toNat }, []⟩ = shown b false := by
            unfold bareT bare1; simp only; rw [if_neg (by decide), if_pos trivial, show ((b.toNat : Nat) : Int) = b by omega]
          obtain ⟨z, r, e, hz, z1, z2, z3⟩ := shown_first b hv.1 hv.2.1
          refine ⟨hx, ⟨z, r, by rw [hb, e], hz⟩, fun s i hs => ?_⟩
          rw [hb] at hs ⊢
          have hs' := hs
          rw [e] at hs'
          have sb := shown_back (l := []) false (by simpa using hs) hv.1 hv.2.1
          unfold atom
          simp only
          rw [hs'.is, if_neg (by simpa using z1), hs'.is, if_neg (by simpa using z2), hs'.is, if_neg (by simpa using z3), sb]
structure PartB (F : ByteArray → At → Res (Tr × At)) (d : Nat) (c : Int) (t : Tr) (c' : Int) : Prop where
  nn : 0 ≤ c'
  fst : ∃ z r, text t = z :: r ∧ First z
  back : ∀ s i, Stands s i (text t) → Calm s (i + (text t).length) → part (F s) s d ⟨i, c⟩ = .ok (t, ⟨i + (text t).length, c'⟩)
theorem part_back {f : At → Res (Tr × At)} {F : ByteArray → At → Res (Tr × At)} (hF : BackF f F) {u : ByteArray} {d : Nat} {x y : At} {t : Tr} (hx : 0 ≤ x.t) (h : part f u d x = .ok (t, y)) : PartB F d x.t t y.t := by
  unfold part at h
  cases h1 : atom f u d x with
  | error e => rw [h1] at h; cases h
  | ok p =>
    obtain ⟨t0, y0⟩ := p
    rw [h1] at h; simp only at h
    have ha := atom_back hF hx h1
    cases h2 : count u y0.i with
    | error e => rw [h2] at h; cases h
    | ok p =>
      obtain ⟨m, n, j⟩ := p
      rw [h2] at h; cases h
      have hmm := count_mm h2
      have hbd := count_bd h2
      have hb : bareT ⟨{ t0.lab with min := m, max := n }, t0.kids⟩ = bareT t0 := rfl
      have ht : text ⟨{ t0.lab with min := m, max := n }, t0.kids⟩ = bareT t0 ++ cnt { t0.lab with min := m, max := n } := rfl
      obtain ⟨z, r, e, hz⟩ := ha.fst
      refine ⟨ha.nn, ⟨z, r ++ cnt { t0.lab with min := m, max := n }, by rw [ht, e]; rfl, hz⟩, fun s i hs hc => ?_⟩
      rw [ht] at hs hc ⊢
      rw [List.length_append, ← Nat.add_assoc] at hc
      have := ha.back s i hs.append.1
      unfold part
      rw [this]
      simp only
      rw [cnt_back { t0.lab with min := m, max := n } hs.append.2 hmm hbd.2.1 hbd.2.2.2 hc]
      simp only [List.length_append]
      rw [Nat.add_assoc]
def tx (m : List Tr) : List UInt8 := texts false false m
theorem tx_true (m : List Tr) : texts false true m = tx m := by
  unfold tx
  cases m with
  | nil => rw [texts, texts]
  | cons t r => rw [texts_cons, texts_cons]; rfl
theorem tx_nil : tx [] = [] := by unfold tx; rw [texts]
theorem tx_cons (t : Tr) (m : List Tr) : tx (t :: m) = text t ++ tx m := by unfold tx; rw [texts_cons]; rfl
structure PartsB (F : ByteArray → At → Res (Tr × At)) (d : Nat) (c : Int) (m : List Tr) (c' : Int) : Prop where
  nn : 0 ≤ c'
  len : m.length ≤ (tx m).length
  fst : tx m = [] ∨ ∃ z r, tx m = z :: r ∧ First z
  back : ∀ s i n l, Stands s i (tx m) → over s (i + (tx m).length) = true → m.length < n → parts (F s) s d n l ⟨i, c⟩ = .ok (l ++ m, ⟨i + (tx m).length, c'⟩)
theorem parts_back {f : At → Res (Tr × At)} {F : ByteArray → At → Res (Tr × At)} (hF : BackF f F) {u : ByteArray} {d : Nat} : ∀ {n : Nat} {l : List Tr} {x y : At} {l' : List Tr}, 0 ≤ x.t → parts f u d n l x = .ok (l', y) → ∃ m, l' = l ++ m ∧ PartsB F d x.t m y.t
  | 0, _, _, _, _, _, h => by cases h
  | n + 1, l, x, y, l', hx, h => by
    unfold parts at h
    split at h
    · cases h
      refine ⟨[], by simp, hx, by simp, Or.inl tx_nil, fun s i n l hs ho hn => ?_⟩
      obtain ⟨k, rfl⟩ : ∃ k, n = k + 1 := ⟨n - 1, by simp at hn; omega⟩
      have ho' : over s i = true := by rw [tx_nil] at ho; exact ho
      rw [parts, if_pos ho']; simp [tx, texts]
    · cases h1 : part f u d x with
      | error e => rw [h1] at h; cases h
      | ok p =>
        obtain ⟨t, z⟩ := p
        rw [h1] at h; simp only at h
        have hp := part_back hF hx h1
        obtain ⟨m, rfl, hm⟩ := parts_back hF hp.nn h
        obtain ⟨a, r, e, ha⟩ := hp.fst
        refine ⟨t :: m, by simp, hm.nn, ?_, ?_, fun s i n l hs ho hn => ?_⟩
        · rw [tx_cons, e]
          have := hm.len
          simp; omega
        · exact Or.inr ⟨a, r ++ tx m, by rw [tx_cons, e]; rfl, ha⟩
        · rw [tx_cons] at hs ho ⊢
          obtain ⟨k, rfl⟩ : ∃ k, n = k + 1 := ⟨n - 1, by simp at hn; omega⟩
          have s1 := hs.append.1
          have s2 := hs.append.2
          rw [List.length_append, ← Nat.add_assoc] at ho
          have hc : Calm s (i + (text t).length) := by
            rcases hm.fst with q | ⟨b, w, q, hb⟩
            · rw [q] at ho; exact Calm.over ho
            · rw [q] at s2; exact Calm.of s2 hb
          have s1' := s1
          rw [e] at s1'
          rw [parts, if_neg (by rw [over_first s1' ha]; decide), hp.back s i s1 hc]
          simp only
          rw [hm.back s _ k (l ++ [t]) s2 ho (by simp at hn; omega)]
          simp [Nat.add_assoc]
structure RowB (F : ByteArray → At → Res (Tr × At)) (d : Nat) (c : Int) (t : Tr) (c' : Int) : Prop where
  nn : 0 ≤ c'
  fst : NoQ (text t)
  back : ∀ s i, Stands s i (text t) → over s (i + (text t).length) = true → row (F s) s d ⟨i, c⟩ = .ok (t, ⟨i + (text t).length, c'⟩)
theorem row_text (l : List Tr) : text ⟨{ blank with kind := 5 }, l⟩ = tx l := by
  have e : text ⟨{ blank with kind := 5 }, l⟩ = bare1 { blank with kind := 5 } (texts false true l) ++ cnt { blank with kind := 5 } := rfl
  have c : cnt { blank with kind := 5 } = [] := by unfold cnt; rw [if_pos (by show (-1 : Int) < 0; omega)]
  have b : ∀ w, bare1 { blank with kind := 5 } w = w := fun w => by unfold bare1; simp
  rw [e, c, b, tx_true]; simp
theorem choice_text (l : List Tr) : text ⟨{ blank with kind := 4 }, l⟩ = texts true true l := by
  have e : text ⟨{ blank with kind := 4 }, l⟩ = bare1 { blank with kind := 4 } (texts true true l) ++ cnt { blank with kind := 4 } := rfl
  have c : cnt { blank with kind := 4 } = [] := by unfold cnt; rw [if_pos (by show (-1 : Int) < 0; omega)]
  have b : ∀ w, bare1 { blank with kind := 4 } w = w := fun w => by unfold bare1; simp
  rw [e, c, b]; simp
theorem row_back {f : At → Res (Tr × At)} {F : ByteArray → At → Res (Tr × At)} (hF : BackF f F) {u : ByteArray} {d : Nat} {x y : At} {t : Tr} (hx : 0 ≤ x.t) (h : row f u d x = .ok (t, y)) : RowB F d x.t t y.t := by
  unfold row at h
  cases h1 : parts f u d (u.size + 1) [] x with
  | error e => rw [h1] at h; cases h
  | ok p =>
    obtain ⟨l, z⟩ := p
    rw [h1] at h; cases h
    obtain ⟨m, e, hm⟩ := parts_back hF hx h1
    obtain rfl : l = m := by simpa using e
    refine ⟨hm.nn, ?_, fun s i hs ho => ?_⟩
    · rw [row_text]
      rcases hm.fst with q | ⟨a, r, q, ha⟩
      · exact Or.inl q
      · exact Or.inr ⟨a, r, q, ha.2.2.1⟩
    · rw [row_text] at hs ho ⊢
      unfold row
      have := hs.1
      have := hm.len
      rw [hm.back s i (s.size + 1) [] hs ho (by omega)]; rfl
structure RowsB (F : ByteArray → At → Res (Tr × At)) (d : Nat) (c : Int) (m : List Tr) (c' : Int) : Prop where
  nn : 0 ≤ c'
  ne : m ≠ []
  len : m.length ≤ (texts true true m).length + 1
  fst : NoQ (texts true true m)
  back : ∀ s i n l, Stands s i (texts true true m) → over s (i + (texts true true m).length) = true → isAt s (i + (texts true true m).length) 124 = false → m.length ≤ n → rows (F s) s d n l ⟨i, c⟩ = .ok (l ++ m, ⟨i + (texts true true m).length, c'⟩)
theorem texts_bar (t : Tr) (m : List Tr) (h : m ≠ []) : texts true true (t :: m) = text t ++ 124 :: texts true true m := by
  rw [texts_cons]
  cases m with
  | nil => exact absurd rfl h
  | cons v r => rw [texts_cons, texts_cons]; simp
theorem rows_back {f : At → Res (Tr × At)} {F : ByteArray → At → Res (Tr × At)} (hF : BackF f F) {u : ByteArray} {d : Nat} : ∀ {n : Nat} {l : List Tr} {x y : At} {l' : List Tr}, 0 ≤ x.t → rows f u d n l x = .ok (l', y) → ∃ m, l' = l ++ m ∧ RowsB F d x.t m y.t
  | 0, _, _, _, _, _, h => by cases h
  | n + 1, l, x, y, l', hx, h => by
    unfold rows at h
    cases h1 : row f u d x with
    | error e => rw [h1] at h; cases h
    | ok p =>
      obtain ⟨t, z⟩ := p
      rw [h1] at h; simp only at h
      have hr := row_back hF hx h1
      split at h
      · obtain ⟨m, rfl, hm⟩ := rows_back hF (x := ⟨z.i + 1, z.t⟩) hr.nn h
        have eb := texts_bar t m hm.ne
        refine ⟨t :: m, by simp, hm.nn, by simp, ?_, ?_, fun s i n l hs ho hno hn => ?_⟩
        · rw [eb]; have := hm.len; simp; omega
        · rw [eb]
          rcases hr.fst with q | ⟨a, r, q, ha⟩
          · exact Or.inr ⟨124, texts true true m, by rw [q]; rfl, by decide⟩
          · exact Or.inr ⟨a, r ++ 124 :: texts true true m, by rw [q]; rfl, ha⟩
        · rw [eb] at hs ho hno ⊢
          obtain ⟨k, rfl⟩ : ∃ k, n = k + 1 := ⟨n - 1, by simp at hn; omega⟩
          have s2 := hs.append.2
          rw [List.length_append, List.length_cons, show i + ((text t).length + ((texts true true m).length + 1)) = i + (text t).length + 1 + (texts true true m).length by omega] at ho hno ⊢
          rw [rows, hr.back s i hs.append.1 (by unfold over; rw [s2.is]; simp)]
          simp only
          rw [s2.is, if_pos (by decide)]
          have := hm.back s (i + (text t).length + 1) k (l ++ [t]) s2.cons.2.2 ho hno (by simp at hn; omega)
          simp only at this
          rw [this]; simp
      · cases h
        refine ⟨[t], rfl, hr.nn, by simp, by simp, by rw [texts_one]; exact hr.fst, fun s i n l hs ho hno hn => ?_⟩
        rw [texts_one] at hs ho hno ⊢
        obtain ⟨k, rfl⟩ : ∃ k, n = k + 1 := ⟨n - 1, by simp at hn; omega⟩
        rw [rows, hr.back s i hs ho]
        simp only
        rw [hno, if_neg (by decide)]
theorem choice_back (u : ByteArray) : ∀ k, BackF (choice u k) (fun s => choice s k)
  | 0 => by intro x t y hx h; cases h
  | k + 1 => by
    intro x t y hx h
    unfold choice at h
    cases h1 : rows (choice u k) u (8 - k) (u.size + 1) [] x with
    | error e => rw [h1] at h; cases h
    | ok p =>
      obtain ⟨l, z⟩ := p
      rw [h1] at h; cases h
      obtain ⟨m, e, hm⟩ := rows_back (choice_back u k) hx h1
      obtain rfl : l = m := by simpa using e
      rw [choice_text]
      refine ⟨hm.nn, hm.fst, fun s i hs ho hno => ?_⟩
      have := hs.1
      have := hm.len
      show choice s (k + 1) ⟨i, x.t⟩ = _
      unfold choice
      rw [hm.back s i (s.size + 1) [] hs ho hno (by omega)]; rfl
theorem read_back {a : ByteArray} {t : Tr} {n : Int} (h : read a = .ok (t, n)) (hz : (text t).length ≤ 200) : read (str (text t)) = .ok (t, n) := by
  unfold read at h
  split at h
  · cases h
  · cases h1 : choice a 9 ⟨0, 0⟩ with
    | error e => rw [h1] at h; cases h
    | ok p =>
      obtain ⟨t', y⟩ := p
      rw [h1] at h; simp only at h
      split at h
      · cases h
      · split at h
        · cases h
        · rename_i hsz
          cases h
          have hs : (str (text t)).size = (text t).length := str_size _
          have b := (choice_back a 9 ⟨0, 0⟩ t y (by show (0 : Int) ≤ 0; omega) h1).2.2 (str (text t)) 0 (Stands.of [] _ [] (by simp) rfl) (over_end (by omega)) (is_end (by omega))
          simp only [Nat.zero_add] at b
          unfold read
          rw [if_neg (by omega), b]
          simp only
          rw [if_neg (by omega), if_neg hsz]
end Sp
end Go.Proofs.YtcpfpnjkfahjcaaGreatDoor
