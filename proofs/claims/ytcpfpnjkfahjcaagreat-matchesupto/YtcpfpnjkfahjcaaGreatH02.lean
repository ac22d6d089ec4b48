import Derived.Test.YtcpfpnjkfahjcaaGreatH01
/- A group's number tells whether it is told: no program is named here. -/
set_option linter.unusedSimpArgs false
set_option linter.unusedVariables false
namespace Go.Proofs.YtcpfpnjkfahjcaaGreat
open Go.RowKit

/-- A group has one part; it is told, if it has a number. -/
def Nums : List Tr → Prop
  | [] => True
  | ⟨a, ks⟩ :: r => (a.kind = 3 → ks.length = 1 ∧ a.told = decide (a.num ≠ 0)) ∧ Nums ks ∧ Nums r

theorem Nums_nil : Nums [] := by unfold Nums; trivial
theorem Nums_cons (t : Tr) (r : List Tr) : Nums (t :: r) = ((t.lab.kind = 3 → t.kids.length = 1 ∧ t.lab.told = decide (t.lab.num ≠ 0)) ∧ Nums t.kids ∧ Nums r) := by obtain ⟨a, ks⟩ := t; rw [Nums]
theorem Nums_append : ∀ (l m : List Tr), Nums l → Nums m → Nums (l ++ m)
  | [], _, _, h => h
  | t :: r, m, h, k => by
    rw [Nums_cons] at h
    show Nums (t :: (r ++ m))
    rw [Nums_cons]; exact ⟨h.1, h.2.1, Nums_append r m h.2.2 k⟩
theorem Nums_one {a : Lab} {ks : List Tr} (h1 : a.kind = 3 → ks.length = 1 ∧ a.told = decide (a.num ≠ 0)) (h2 : Nums ks) : Nums [⟨a, ks⟩] := by rw [Nums_cons]; exact ⟨h1, h2, Nums_nil⟩
namespace Sp
def NumsF (f : At → Res (Tr × At)) : Prop := ∀ x t y, f x = .ok (t, y) → Nums [t]
theorem list_nums {s : ByteArray} {i j : Nat} {t : Tr} (h : list s i = .ok (t, j)) : Nums [t] := by
  unfold list at h
  simp only [] at h
  cases h1 : items s (s.size + 1) (fun _ => false) (if isAt s i 94 = true then i + 1 else i) with
  | error f => simp [h1] at h
  | ok v =>
    obtain ⟨set, k⟩ := v
    simp only [h1] at h
    cases h
    exact Nums_one (by simp) Nums_nil
theorem atom_nums {s : ByteArray} {d : Nat} {sub : At → Res (Tr × At)} (hs : NumsF sub) {x : At} {t : Tr} {y : At} (h : atom sub s d x = .ok (t, y)) : Nums [t] := by
  unfold atom at h
  by_cases c1 : isAt s x.i 40 = true
  · rw [if_pos c1] at h
    unfold group at h
    cases hh : head s d x with
    | error f => rw [hh] at h; cases h
    | ok v =>
      obtain ⟨k, z⟩ := v
      rw [hh] at h
      cases hb : sub z with
      | error f => simp [hb] at h
      | ok v =>
        obtain ⟨t', u⟩ := v
        have b := hs z t' u hb
        cases hn : need 41 s u.i with
        | error f => simp [hb, hn] at h
        | ok j =>
          simp [hb, hn] at h; obtain ⟨rfl, rfl⟩ := h
          exact Nums_one (by simp) b
  rw [if_neg c1] at h
  by_cases c2 : isAt s x.i 91 = true
  · rw [if_pos c2] at h
    cases h1 : list s (x.i + 1) with
    | error f => simp [h1] at h
    | ok v => obtain ⟨t', j⟩ := v; simp [h1] at h; obtain ⟨rfl, rfl⟩ := h; exact list_nums h1
  rw [if_neg c2] at h
  by_cases c3 : isAt s x.i 46 = true
  · rw [if_pos c3] at h; cases h
    exact Nums_one (by simp) Nums_nil
  rw [if_neg c3] at h
  cases h1 : byteBut false s x.i with
  | error f => simp [h1] at h
  | ok v =>
    obtain ⟨b, j⟩ := v
    simp [h1] at h; obtain ⟨rfl, rfl⟩ := h
    exact Nums_one (by simp) Nums_nil
theorem part_nums {s : ByteArray} {d : Nat} {sub : At → Res (Tr × At)} (hs : NumsF sub) {x : At} {t : Tr} {y : At} (h : part sub s d x = .ok (t, y)) : Nums [t] := by
  unfold part at h
  cases h1 : atom sub s d x with
  | error f => simp [h1] at h
  | ok v =>
    obtain ⟨t', z⟩ := v
    have g := atom_nums hs h1
    rw [Nums_cons] at g
    cases h2 : count s z.i with
    | error f => simp [h1, h2] at h
    | ok v =>
      obtain ⟨m, n, j⟩ := v
      simp [h1, h2] at h; obtain ⟨rfl, rfl⟩ := h
      exact Nums_one g.1 g.2.1
theorem parts_nums {s : ByteArray} {d : Nat} {sub : At → Res (Tr × At)} (hs : NumsF sub) : ∀ {n : Nat} {l : List Tr} {x : At} {l' : List Tr} {y : At}, parts sub s d n l x = .ok (l', y) → Nums l → Nums l'
  | 0, _, _, _, _, h, _ => by cases h
  | n + 1, l, x, l', y, h, hl => by
    unfold parts at h
    split at h
    · cases h; exact hl
    · cases h1 : part sub s d x with
      | error f => simp [h1] at h
      | ok v =>
        obtain ⟨t', z⟩ := v
        simp only [h1] at h
        exact parts_nums hs h (Nums_append _ _ hl (part_nums hs h1))
theorem row_nums {s : ByteArray} {d : Nat} {sub : At → Res (Tr × At)} (hs : NumsF sub) : NumsF (row sub s d) := by
  intro x t y h
  unfold row at h
  cases h1 : parts sub s d (s.size + 1) [] x with
  | error f => simp [h1] at h
  | ok v =>
    obtain ⟨l, z⟩ := v
    simp [h1] at h; obtain ⟨rfl, rfl⟩ := h
    exact Nums_one (by simp) (parts_nums hs h1 Nums_nil)
theorem rows_nums {s : ByteArray} {d : Nat} {sub : At → Res (Tr × At)} (hs : NumsF sub) : ∀ {n : Nat} {l : List Tr} {x : At} {l' : List Tr} {y : At}, rows sub s d n l x = .ok (l', y) → Nums l → Nums l'
  | 0, _, _, _, _, h, _ => by cases h
  | n + 1, l, x, l', y, h, hl => by
    unfold rows at h
    cases h1 : row sub s d x with
    | error f => simp [h1] at h
    | ok v =>
      obtain ⟨t', z⟩ := v
      have m := row_nums hs x t' z h1
      simp only [h1] at h
      split at h
      · exact rows_nums hs h (Nums_append _ _ hl m)
      · cases h; exact Nums_append _ _ hl m
theorem choice_nums (s : ByteArray) : ∀ k, NumsF (choice s k)
  | 0 => by intro x t y h; cases h
  | k + 1 => by
    intro x t y h
    unfold choice at h
    cases h1 : rows (choice s k) s (8 - k) (s.size + 1) [] x with
    | error f => simp [h1] at h
    | ok v =>
      obtain ⟨l, z⟩ := v
      simp [h1] at h; obtain ⟨rfl, rfl⟩ := h
      exact Nums_one (by simp) (rows_nums (choice_nums s k) h1 Nums_nil)
theorem read_nums {s : ByteArray} {t : Tr} {n : Int} (h : read s = .ok (t, n)) : Nums [t] := by
  unfold read at h
  split at h
  · cases h
  · cases h1 : choice s 9 ⟨0, 0⟩ with
    | error f => simp [h1] at h
    | ok v =>
      obtain ⟨t', y⟩ := v
      simp only [h1] at h
      split at h
      · cases h
      · split at h
        · cases h
        · cases h; exact choice_nums s 9 _ _ _ h1
end Sp
end Go.Proofs.YtcpfpnjkfahjcaaGreat

/- An error has a number that is not 0: no program is named here. -/
set_option linter.unusedSimpArgs false
set_option linter.unusedVariables false
namespace Go.Proofs.YtcpfpnjkfahjcaaGreat
namespace Sp

theorem number_code {m : Int} {s : ByteArray} {i : Nat} {e a : Int} (h : number m s i = .error (e, a)) : e ≠ 0 := by
  unfold number at h; split at h
  · split at h
    · cases h; decide
    · cases h
  · cases h; decide
theorem need_code {c : Int} {s : ByteArray} {i : Nat} {e a : Int} (h : need c s i = .error (e, a)) : e ≠ 0 := by
  unfold need at h; split at h
  · cases h
  · cases h; decide
theorem bounds_code {s : ByteArray} {i : Nat} {e a : Int} (h : bounds s i = .error (e, a)) : e ≠ 0 := by
  unfold bounds at h
  cases h1 : number 0 s i with
  | error f => rw [h1] at h; cases h; exact number_code h1
  | ok p =>
    obtain ⟨m, j⟩ := p
    rw [h1] at h; simp only at h
    split at h
    · split at h
      · cases h2 : number m s (j + 1) with
        | error f => rw [h2] at h; cases h; exact number_code h2
        | ok p =>
          obtain ⟨n, k⟩ := p
          rw [h2] at h; simp only at h
          cases h3 : need 125 s k with
          | error f => rw [h3] at h; cases h; exact need_code h3
          | ok l => rw [h3] at h; cases h
      · cases h3 : need 125 s (j + 1) with
        | error f => rw [h3] at h; cases h; exact need_code h3
        | ok l => rw [h3] at h; cases h
    · cases h3 : need 125 s j with
      | error f => rw [h3] at h; cases h; exact need_code h3
      | ok l => rw [h3] at h; cases h
theorem count_code {s : ByteArray} {i : Nat} {e a : Int} (h : count s i = .error (e, a)) : e ≠ 0 := by
  unfold count at h
  split at h
  · cases h
  · split at h
    · cases h
    · split at h
      · cases h
      · split at h
        · exact bounds_code h
        · cases h
theorem byteBut_code {l : Bool} {s : ByteArray} {i : Nat} {e a : Int} (h : byteBut l s i = .error (e, a)) : e ≠ 0 := by rw [byteBut_err h]; decide
theorem item_code {s : ByteArray} {i : Nat} {e a : Int} (h : item s i = .error (e, a)) : e ≠ 0 := by
  unfold item at h
  cases h1 : byteBut true s i with
  | error f => rw [h1] at h; cases h; exact byteBut_code h1
  | ok p =>
    obtain ⟨b, j⟩ := p
    rw [h1] at h; simp only at h
    split at h
    · cases h2 : byteBut true s (j + 1) with
      | error f => rw [h2] at h; cases h; exact byteBut_code h2
      | ok p =>
        obtain ⟨c, k⟩ := p
        rw [h2] at h; simp only at h
        split at h
        · cases h; decide
        · cases h
    · cases h
theorem items_code {s : ByteArray} : ∀ {n : Nat} {set : Nat → Bool} {i : Nat} {e a : Int}, items s n set i = .error (e, a) → e ≠ 0
  | 0, _, _, _, _, h => by cases h; decide
  | n + 1, set, i, e, a, h => by
    unfold items at h
    cases h1 : item s i with
    | error f => rw [h1] at h; cases h; exact item_code h1
    | ok p =>
      obtain ⟨b, c, j⟩ := p
      rw [h1] at h; simp only at h
      split at h
      · cases h
      · exact items_code h
theorem list_code {s : ByteArray} {i : Nat} {e a : Int} (h : list s i = .error (e, a)) : e ≠ 0 := by
  unfold list at h
  simp only at h
  cases h1 : items s (s.size + 1) (fun _ => false) (if isAt s i 94 = true then i + 1 else i) with
  | error f => simp only [h1] at h; cases h; exact items_code h1
  | ok p => obtain ⟨set, k⟩ := p; simp only [h1] at h; cases h
theorem head_code {s : ByteArray} {d : Nat} {x : At} {e a : Int} (h : head s d x = .error (e, a)) : e ≠ 0 := by
  unfold head at h
  split at h
  · cases h; decide
  · split at h
    · cases h1 : need 58 s (x.i + 2) with
      | error f => rw [h1] at h; cases h; exact need_code h1
      | ok j => rw [h1] at h; cases h
    · split at h
      · cases h; decide
      · cases h
def CodeF (f : At → Res (Tr × At)) : Prop := ∀ x e a, f x = .error (e, a) → e ≠ 0
theorem group_code {sub : At → Res (Tr × At)} (hs : CodeF sub) {s : ByteArray} {d : Nat} {x : At} {e a : Int} (h : group sub s d x = .error (e, a)) : e ≠ 0 := by
  unfold group at h
  cases h1 : head s d x with
  | error f => rw [h1] at h; cases h; exact head_code h1
  | ok p =>
    obtain ⟨k, y⟩ := p
    rw [h1] at h; simp only at h
    cases h2 : sub y with
    | error f => rw [h2] at h; cases h; exact hs _ _ _ h2
    | ok p =>
      obtain ⟨t, z⟩ := p
      rw [h2] at h; simp only at h
      cases h3 : need 41 s z.i with
      | error f => rw [h3] at h; cases h; exact need_code h3
      | ok j => rw [h3] at h; cases h
theorem atom_code {sub : At → Res (Tr × At)} (hs : CodeF sub) {s : ByteArray} {d : Nat} {x : At} {e a : Int} (h : atom sub s d x = .error (e, a)) : e ≠ 0 := by
  unfold atom at h
  split at h
  · exact group_code hs h
  · split at h
    · cases h1 : list s (x.i + 1) with
      | error f => rw [h1] at h; cases h; exact list_code h1
      | ok p => obtain ⟨t, j⟩ := p; rw [h1] at h; cases h
    · split at h
      · cases h
      · cases h1 : byteBut false s x.i with
        | error f => rw [h1] at h; cases h; exact byteBut_code h1
        | ok p => obtain ⟨b, j⟩ := p; rw [h1] at h; cases h
theorem part_code {sub : At → Res (Tr × At)} (hs : CodeF sub) {s : ByteArray} {d : Nat} {x : At} {e a : Int} (h : part sub s d x = .error (e, a)) : e ≠ 0 := by
  unfold part at h
  cases h1 : atom sub s d x with
  | error f => rw [h1] at h; cases h; exact atom_code hs h1
  | ok p =>
    obtain ⟨t, y⟩ := p
    rw [h1] at h; simp only at h
    cases h2 : count s y.i with
    | error f => rw [h2] at h; cases h; exact count_code h2
    | ok p => obtain ⟨m, n, j⟩ := p; rw [h2] at h; cases h
theorem parts_code {sub : At → Res (Tr × At)} (hs : CodeF sub) {s : ByteArray} {d : Nat} : ∀ {n : Nat} {l : List Tr} {x : At} {e a : Int}, parts sub s d n l x = .error (e, a) → e ≠ 0
  | 0, _, _, _, _, h => by cases h; decide
  | n + 1, l, x, e, a, h => by
    unfold parts at h
    split at h
    · cases h
    · cases h1 : part sub s d x with
      | error f => rw [h1] at h; cases h; exact part_code hs h1
      | ok p => obtain ⟨t, y⟩ := p; rw [h1] at h; exact parts_code hs h
theorem row_code {sub : At → Res (Tr × At)} (hs : CodeF sub) {s : ByteArray} {d : Nat} : CodeF (row sub s d) := by
  intro x e a h
  unfold row at h
  cases h1 : parts sub s d (s.size + 1) [] x with
  | error f => rw [h1] at h; cases h; exact parts_code hs h1
  | ok p => obtain ⟨l, y⟩ := p; rw [h1] at h; cases h
theorem rows_code {sub : At → Res (Tr × At)} (hs : CodeF sub) {s : ByteArray} {d : Nat} : ∀ {n : Nat} {l : List Tr} {x : At} {e a : Int}, rows sub s d n l x = .error (e, a) → e ≠ 0
  | 0, _, _, _, _, h => by cases h; decide
  | n + 1, l, x, e, a, h => by
    unfold rows at h
    cases h1 : row sub s d x with
    | error f => rw [h1] at h; cases h; exact row_code hs _ _ _ h1
    | ok p =>
      obtain ⟨t, y⟩ := p
      rw [h1] at h; simp only at h
      split at h
      · exact rows_code hs h
      · cases h
theorem choice_code (s : ByteArray) : ∀ k, CodeF (choice s k)
  | 0 => by intro x e a h; cases h; decide
  | k + 1 => by
    intro x e a h
    unfold choice at h
    cases h1 : rows (choice s k) s (8 - k) (s.size + 1) [] x with
    | error f => rw [h1] at h; cases h; exact rows_code (choice_code s k) h1
    | ok p => obtain ⟨l, y⟩ := p; rw [h1] at h; cases h
theorem read_code {s : ByteArray} {e a : Int} (h : read s = .error (e, a)) : e ≠ 0 := by
  unfold read at h
  split at h
  · cases h; decide
  · cases h1 : choice s 9 ⟨0, 0⟩ with
    | error f => rw [h1] at h; cases h; exact choice_code s 9 _ _ _ h1
    | ok p =>
      obtain ⟨t, y⟩ := p
      rw [h1] at h; simp only at h
      split at h
      · cases h; decide
      · split at h
        · cases h; decide
        · cases h
end Sp
end Go.Proofs.YtcpfpnjkfahjcaaGreat

/- What a pattern matches, and where its groups are then: no program is named here. -/
set_option linter.unusedSimpArgs false
set_option linter.unusedVariables false
namespace Go.Proofs.YtcpfpnjkfahjcaaGreat
namespace Sp

/-- What a node says of a part of the text: is it matched; its groups, in the order in which they are gone through. -/
structure Sem where
  m : Nat → Nat → Bool
  g : Nat → Nat → List (Nat × Nat × Nat)

/-- The greatest place from i to j at which p holds. -/
def greatest (p : Nat → Bool) (i : Nat) : Nat → Option Nat
  | 0 => if i = 0 ∧ p 0 = true then some 0 else none
  | j + 1 => if i ≤ j + 1 ∧ p (j + 1) = true then some (j + 1) else greatest p i j

def cutB (p q : Nat → Nat → Bool) (lo i j : Nat) : Bool := (greatest (fun k => p i k && q k j) lo j).isSome

/-- A row: piece by piece. -/
def rowM : List Sem → Nat → Nat → Bool
  | [], i, j => i == j
  | t :: r, i, j => cutB t.m (rowM r) i i j
def rowG : List Sem → Nat → Nat → List (Nat × Nat × Nat)
  | [], _, _ => []
  | t :: r, i, j => match greatest (fun k => t.m i k && rowM r k j) i j with
    | none => []
    | some k => t.g i k ++ rowG r k j
def choiceM (l : List Sem) (i j : Nat) : Bool := l.any fun t => t.m i j
def choiceG : List Sem → Nat → Nat → List (Nat × Nat × Nat)
  | [], _, _ => []
  | t :: r, i, j => if t.m i j then t.g i j else choiceG r i j

/-- Turns: the least ones that are still to come, how many may come at most (none: no end), the steps that may still be taken. -/
def turnsM (t : Sem) : Nat → Nat → Option Nat → Nat → Nat → Bool
  | 0, _, _, _, _ => false
  | f + 1, m + 1, n, i, j => cutB t.m (turnsM t f m (n.map (· - 1))) i i j
  | f + 1, 0, n, i, j => i == j || (n != some 0 && cutB t.m (turnsM t f 0 (n.map (· - 1))) (i + 1) i j)
def turnsG (t : Sem) : Nat → Nat → Option Nat → Nat → Nat → List (Nat × Nat × Nat)
  | 0, _, _, _, _ => []
  | f + 1, m + 1, n, i, j => match greatest (fun k => t.m i k && turnsM t f m (n.map (· - 1)) k j) i j with
    | none => []
    | some k => t.g i k ++ turnsG t f m (n.map (· - 1)) k j
  | f + 1, 0, n, i, j => if i == j then [] else match greatest (fun k => t.m i k && turnsM t f 0 (n.map (· - 1)) k j) (i + 1) j with
    | none => []
    | some k => t.g i k ++ turnsG t f 0 (n.map (· - 1)) k j

def one (s : ByteArray) (f : Nat → Bool) (i j : Nat) : Bool := j == i + 1 && decide (i < s.size) && f (byteAt s i).toNat
def fits (a : Lab) (c : Nat) : Bool := a.set c != a.not

def bareSem (s : ByteArray) (a : Lab) (l : List Sem) : Sem :=
  if a.kind ≤ 2 then ⟨one s (fits a), fun _ _ => []⟩
  else if a.kind = 3 then ⟨choiceM l, fun i j => (if a.told then [(a.num, i, j)] else []) ++ choiceG l i j⟩
  else if a.kind = 4 then ⟨choiceM l, choiceG l⟩
  else ⟨rowM l, rowG l⟩
def most (n : Int) : Option Nat := if n < 0 then none else some n.toNat
def node (s : ByteArray) (a : Lab) (l : List Sem) : Sem :=
  if a.min < 0 then bareSem s a l
  else ⟨fun i j => turnsM (bareSem s a l) (a.min.toNat + (j - i) + 1) a.min.toNat (most a.max) i j, fun i j => turnsG (bareSem s a l) (a.min.toNat + (j - i) + 1) a.min.toNat (most a.max) i j⟩

def sems (s : ByteArray) : List Tr → List Sem
  | [] => []
  | ⟨a, ks⟩ :: r => node s a (sems s ks) :: sems s r
def sem (s : ByteArray) (t : Tr) : Sem := node s t.lab (sems s t.kids)
theorem sems_cons (s : ByteArray) (t : Tr) (r : List Tr) : sems s (t :: r) = sem s t :: sems s r := by obtain ⟨a, ks⟩ := t; rw [sems]; rfl
theorem sems_nil (s : ByteArray) : sems s [] = [] := by rw [sems]

/-- Where the groups are, the whole first: the last of each. -/
def spansFrom (n : Nat) (l : List (Nat × Nat × Nat)) : Nat → Int × Int := fun g =>
  match (l.filter (fun x => x.1 == g)).getLast? with
  | none => (-1, -1)
  | some x => (x.2.1, x.2.2)

theorem greatest_some {p : Nat → Bool} {i : Nat} : ∀ {j k : Nat}, greatest p i j = some k → i ≤ k ∧ k ≤ j ∧ p k = true ∧ ∀ m, k < m → m ≤ j → p m = false
  | 0, k, h => by
    unfold greatest at h; split at h
    · rename_i q; cases h; exact ⟨by omega, Nat.le_refl _, q.2, by omega⟩
    · cases h
  | j + 1, k, h => by
    unfold greatest at h; split at h
    · rename_i q; cases h; exact ⟨q.1, Nat.le_refl _, q.2, by omega⟩
    · rename_i q
      have r := greatest_some h
      refine ⟨r.1, by omega, r.2.2.1, fun m h1 h2 => ?_⟩
      rcases Nat.lt_or_eq_of_le h2 with h3 | h3
      · exact r.2.2.2 m h1 (by omega)
      · subst h3
        cases hp : p (j + 1) with
        | false => rfl
        | true => exact absurd ⟨by omega, hp⟩ q
theorem greatest_none {p : Nat → Bool} {i : Nat} : ∀ {j : Nat}, greatest p i j = none → ∀ m, i ≤ m → m ≤ j → p m = false
  | 0, h, m, h1, h2 => by
    unfold greatest at h; split at h
    · cases h
    · rename_i q
      have : m = 0 := by omega
      subst this
      cases hp : p 0 with
      | false => rfl
      | true => exact absurd ⟨by omega, hp⟩ q
  | j + 1, h, m, h1, h2 => by
    unfold greatest at h; split at h
    · cases h
    · rename_i q
      rcases Nat.lt_or_eq_of_le h2 with h3 | h3
      · exact greatest_none h m h1 (by omega)
      · subst h3
        cases hp : p (j + 1) with
        | false => rfl
        | true => exact absurd ⟨h1, hp⟩ q
theorem cutB_iff {p q : Nat → Nat → Bool} {lo i j : Nat} : cutB p q lo i j = true ↔ ∃ k, lo ≤ k ∧ k ≤ j ∧ p i k = true ∧ q k j = true := by
  unfold cutB
  constructor
  · intro h
    rw [Option.isSome_iff_exists] at h
    obtain ⟨k, hk⟩ := h
    have r := greatest_some hk
    have := r.2.2.1
    simp at this
    exact ⟨k, r.1, r.2.1, this.1, this.2⟩
  · rintro ⟨k, h1, h2, h3, h4⟩
    cases hg : greatest (fun k => p i k && q k j) lo j with
    | some x => rfl
    | none => have := greatest_none hg k h1 h2; simp [h3, h4] at this
end Sp
end Go.Proofs.YtcpfpnjkfahjcaaGreat

/- What is still to be matched of a node, when some of it is done: no program is named here. -/
set_option linter.unusedSimpArgs false
set_option linter.unusedVariables false
namespace Go.Proofs.YtcpfpnjkfahjcaaGreat
namespace Sp

theorem cutB_congr {p q p' q' : Nat → Nat → Bool} {lo i j : Nat} (h : ∀ k, lo ≤ k → k ≤ j → (p i k && q k j) = (p' i k && q' k j)) : cutB p q lo i j = cutB p' q' lo i j := by
  rw [Bool.eq_iff_iff, cutB_iff, cutB_iff]
  constructor
  · rintro ⟨k, h1, h2, h3, h4⟩
    have := h k h1 h2
    rw [h3, h4] at this
    have := this.symm
    simp at this
    exact ⟨k, h1, h2, this.1, this.2⟩
  · rintro ⟨k, h1, h2, h3, h4⟩
    have := h k h1 h2
    rw [h3, h4] at this
    simp at this
    exact ⟨k, h1, h2, this.1, this.2⟩

theorem turns_fuel (t : Sem) : ∀ (f g m : Nat) (n : Option Nat) (i j : Nat), m + (j - i) < f → m + (j - i) < g → turnsM t f m n i j = turnsM t g m n i j
  | 0, _, _, _, _, _, h, _ => by omega
  | _ + 1, 0, _, _, _, _, _, h => by omega
  | f + 1, g + 1, 0, n, i, j, h1, h2 => by
    rw [turnsM, turnsM]
    congr 2
    exact cutB_congr fun k hk hj => by rw [turns_fuel t f g 0 _ k j (by omega) (by omega)]
  | f + 1, g + 1, m + 1, n, i, j, h1, h2 => by
    rw [turnsM, turnsM]
    exact cutB_congr fun k hk hj => by rw [turns_fuel t f g m _ k j (by omega) (by omega)]

/-- Turns of which some are done. -/
def turnsD (t : Sem) (m : Nat) (n : Option Nat) (d i j : Nat) : Bool := turnsM t (m - d + (j - i) + 1) (m - d) (n.map (· - d)) i j
theorem turnsD_less (t : Sem) (m : Nat) (n : Option Nat) (d i j : Nat) (h : d < m) : turnsD t m n d i j = cutB t.m (turnsD t m n (d + 1)) i i j := by
  obtain ⟨e, he⟩ : ∃ e, m - d = e + 1 := ⟨m - d - 1, by omega⟩
  unfold turnsD
  rw [he, turnsM]
  refine cutB_congr fun k hk hj => ?_
  have e2 : m - (d + 1) = e := by omega
  have e3 : ((n.map (· - d)).map (· - 1)) = n.map (· - (d + 1)) := by cases n <;> simp; omega
  rw [e3, e2, turns_fuel t (e + 1 + (j - i)) (e + (j - k) + 1) e _ k j (by omega) (by omega)]
theorem turnsD_more (t : Sem) (m : Nat) (n : Option Nat) (d i j : Nat) (h : m ≤ d) : turnsD t m n d i j = (i == j || ((n.map (· - d)) != some 0 && cutB t.m (turnsD t m n (d + 1)) (i + 1) i j)) := by
  have he : m - d = 0 := by omega
  unfold turnsD
  rw [he, turnsM]
  congr 2
  refine cutB_congr fun k hk hj => ?_
  have e2 : m - (d + 1) = 0 := by omega
  have e3 : ((n.map (· - d)).map (· - 1)) = n.map (· - (d + 1)) := by cases n <;> simp; omega
  rw [e3, e2, turns_fuel t (0 + (j - i)) (0 + (j - k) + 1) 0 _ k j (by omega) (by omega)]
theorem turnsD_endless (t : Sem) (m d i j : Nat) (h : m ≤ d) : turnsD t m none d i j = turnsD t m none m i j := by
  unfold turnsD
  rw [show m - d = m - m by omega]; rfl

/-- What is still to be matched of a tree of which some parts or turns are done. -/
def spotM (s : ByteArray) (t : Tr) (d i j : Nat) : Bool :=
  if 0 ≤ t.lab.min then turnsD (bareSem s t.lab (sems s t.kids)) t.lab.min.toNat (most t.lab.max) d i j
  else if t.lab.kind = 5 then rowM ((sems s t.kids).drop d) i j
  else (sem s t).m i j
theorem spotM_zero (s : ByteArray) (t : Tr) (i j : Nat) : spotM s t 0 i j = (sem s t).m i j := by
  unfold spotM sem node
  split
  · rename_i h
    rw [if_neg (by omega)]
    unfold turnsD
    simp
  · rename_i h
    split
    · rename_i hk
      rw [if_pos (by omega)]
      unfold bareSem
      simp [hk]
    · rfl

theorem cutB_le {p q : Nat → Nat → Bool} {lo i j : Nat} (h : cutB p q lo i j = true) (hl : i ≤ lo) : i ≤ j := by
  obtain ⟨k, h1, h2, _⟩ := cutB_iff.mp h; omega
theorem rowM_le : ∀ (l : List Sem) {i j : Nat}, rowM l i j = true → i ≤ j
  | [], i, j, h => by simp [rowM] at h; omega
  | t :: r, i, j, h => by rw [rowM] at h; exact cutB_le h (Nat.le_refl _)
theorem turnsM_le (t : Sem) : ∀ (f m : Nat) (n : Option Nat) {i j : Nat}, turnsM t f m n i j = true → i ≤ j
  | 0, _, _, _, _, h => by simp [turnsM] at h
  | f + 1, 0, n, i, j, h => by
    rw [turnsM] at h
    simp at h
    rcases h with h | h
    · omega
    · exact cutB_le h.2 (by omega)
  | f + 1, m + 1, n, i, j, h => by rw [turnsM] at h; exact cutB_le h (Nat.le_refl _)
theorem bare_le (s : ByteArray) (a : Lab) (l : List Sem) (hl : ∀ x ∈ l, ∀ i j, x.m i j = true → i ≤ j) (i j : Nat) (h : (bareSem s a l).m i j = true) : i ≤ j := by
  have hc : choiceM l i j = true → i ≤ j := fun q => by
    unfold choiceM at q
    rw [List.any_eq_true] at q
    obtain ⟨x, h1, h2⟩ := q
    exact hl x h1 i j h2
  unfold bareSem at h
  split at h
  · simp [one] at h; omega
  · split at h
    · exact hc h
    · split at h
      · exact hc h
      · exact rowM_le l h
theorem node_le (s : ByteArray) (a : Lab) (l : List Sem) (hl : ∀ x ∈ l, ∀ i j, x.m i j = true → i ≤ j) (i j : Nat) (h : (node s a l).m i j = true) : i ≤ j := by
  unfold node at h
  split at h
  · exact bare_le s a l hl i j h
  · exact turnsM_le _ _ _ _ h
theorem sems_le (s : ByteArray) : ∀ (l : List Tr), ∀ x ∈ sems s l, ∀ i j, x.m i j = true → i ≤ j
  | [], x, hx => by rw [sems_nil] at hx; cases hx
  | ⟨a, ks⟩ :: r, x, hx => by
    rw [sems] at hx
    intro i j h
    rcases List.mem_cons.mp hx with q | q
    · rw [q] at h; exact node_le s a (sems s ks) (sems_le s ks) i j h
    · exact sems_le s r x q i j h
theorem sem_le (s : ByteArray) (t : Tr) (i j : Nat) (h : (sem s t).m i j = true) : i ≤ j := node_le s _ _ (sems_le s t.kids) i j h
theorem spotM_le (s : ByteArray) (t : Tr) (d i j : Nat) (h : spotM s t d i j = true) : i ≤ j := by
  unfold spotM at h
  split at h
  · exact turnsM_le _ _ _ _ h
  · split at h
    · exact rowM_le _ h
    · exact sem_le s t i j h
/-- The cuts that have been looked at so far. -/
def cutTo (p q : Nat → Nat → Bool) (lo i : Nat) : Nat → Nat → Bool
  | 0, _ => false
  | c + 1, j => cutTo p q lo i c j || (decide (lo ≤ c) && p i c && q c j)
theorem cutTo_iff (p q : Nat → Nat → Bool) (lo i j : Nat) : ∀ c, cutTo p q lo i c j = true ↔ ∃ k, lo ≤ k ∧ k < c ∧ p i k = true ∧ q k j = true
  | 0 => by simp [cutTo]
  | c + 1 => by
    rw [cutTo, Bool.or_eq_true, cutTo_iff p q lo i j c]
    simp only [Bool.and_eq_true, decide_eq_true_eq]
    constructor
    · rintro (⟨k, h1, h2, h3, h4⟩ | ⟨⟨h1, h3⟩, h4⟩)
      · exact ⟨k, h1, by omega, h3, h4⟩
      · exact ⟨c, h1, by omega, h3, h4⟩
    · rintro ⟨k, h1, h2, h3, h4⟩
      rcases Nat.lt_or_eq_of_le (Nat.le_of_lt_succ h2) with q' | q'
      · exact Or.inl ⟨k, h1, q', h3, h4⟩
      · subst q'; exact Or.inr ⟨⟨h1, h3⟩, h4⟩
theorem cutTo_none (p q : Nat → Nat → Bool) (lo i j c : Nat) (h : c ≤ lo) : cutTo p q lo i c j = false := by
  cases hc : cutTo p q lo i c j with
  | false => rfl
  | true => obtain ⟨k, h1, h2, _⟩ := (cutTo_iff p q lo i j c).mp hc; omega
theorem cutTo_yes (p q : Nat → Nat → Bool) (lo i j c : Nat) (h : lo ≤ c) (hp : p i c = true) : cutTo p q lo i (c + 1) j = (cutTo p q lo i c j || q c j) := by
  rw [cutTo, hp]; simp [h]
theorem cutTo_no (p q : Nat → Nat → Bool) (lo i j c : Nat) (hp : p i c = false) : cutTo p q lo i (c + 1) j = cutTo p q lo i c j := by
  rw [cutTo, hp]; simp
theorem cutTo_all (p q : Nat → Nat → Bool) (lo i j c : Nat) (hq : ∀ k, q k j = true → k ≤ j) (hc : j < c) : cutTo p q lo i c j = cutB p q lo i j := by
  rw [Bool.eq_iff_iff, cutB_iff, cutTo_iff]
  constructor
  · rintro ⟨k, h1, h2, h3, h4⟩; exact ⟨k, h1, hq k h4, h3, h4⟩
  · rintro ⟨k, h1, h2, h3, h4⟩; exact ⟨k, h1, by omega, h3, h4⟩

/-- The labels that the reading of a pattern makes. -/
structure CanL (a : Lab) : Prop where
  kind : a.kind ≤ 5
  byte : a.kind ≠ 0 → a.byte = 0
  num : a.kind ≠ 3 → a.num = 0
  told : a.told = decide (a.num ≠ 0)
  s0 : a.kind = 0 → a.byte < 256 ∧ a.set = fun c => c == a.byte
  s1 : a.kind = 1 → a.set = fun c => c == 10
  s2 : a.kind = 2 → ∀ c, a.set c = true → c < 256
  s3 : 2 < a.kind → a.set = fun _ => false
  not : a.kind ≠ 2 → a.not = decide (a.kind = 1)
  cnt : a.min < 0 → a.min = -1 ∧ a.max = 0
  max : -1 ≤ a.max ∧ a.max ≤ 20
  min : a.min ≤ 20
  mm : 0 ≤ a.min → a.max = -1 ∨ a.min ≤ a.max
def Can : List Tr → Prop
  | [] => True
  | ⟨a, ks⟩ :: r => (CanL a ∧ (a.kind ≤ 2 → ks = []) ∧ (a.kind = 3 → ks.length = 1) ∧ (a.kind = 4 → ks ≠ [])) ∧ Can ks ∧ Can r
theorem Can_nil : Can [] := by rw [Can]; trivial
theorem Can_cons (t : Tr) (r : List Tr) : Can (t :: r) ↔ (CanL t.lab ∧ (t.lab.kind ≤ 2 → t.kids = []) ∧ (t.lab.kind = 3 → t.kids.length = 1) ∧ (t.lab.kind = 4 → t.kids ≠ [])) ∧ Can t.kids ∧ Can r := by
  obtain ⟨a, ks⟩ := t; rw [Can]
theorem Can.get : ∀ {l : List Tr} {k : Nat} {t : Tr}, Can l → l[k]? = some t → Can [t]
  | [], _, _, _, h => by simp at h
  | x :: r, 0, t, h, e => by
    simp at e; subst e
    rw [Can_cons] at h ⊢
    exact ⟨h.1, h.2.1, Can_nil⟩
  | x :: r, k + 1, t, h, e => by
    rw [Can_cons] at h
    exact h.2.2.get (by simpa using e)
end Sp
end Go.Proofs.YtcpfpnjkfahjcaaGreat

/- The trees that reading makes have the labels that reading makes: no program is named here. -/
set_option linter.unusedSimpArgs false
set_option linter.unusedVariables false
namespace Go.Proofs.YtcpfpnjkfahjcaaGreat
namespace Sp

theorem Can_append : ∀ (l m : List Tr), Can l → Can m → Can (l ++ m)
  | [], _, _, h => h
  | t :: r, m, h, k => by
    rw [Can_cons] at h
    show Can (t :: (r ++ m))
    rw [Can_cons]; exact ⟨h.1, h.2.1, Can_append r m h.2.2 k⟩
theorem Can_one {a : Lab} {ks : List Tr} (h1 : CanL a ∧ (a.kind ≤ 2 → ks = []) ∧ (a.kind = 3 → ks.length = 1) ∧ (a.kind = 4 → ks ≠ [])) (h2 : Can ks) : Can [⟨a, ks⟩] := by
  rw [Can_cons]; exact ⟨h1, h2, Can_nil⟩

theorem item_up {s : ByteArray} {i j : Nat} {a b : Int} (h : item s i = .ok (a, b, j)) : b ≤ 255 := by
  unfold item at h
  cases h1 : byteBut true s i with
  | error f => simp [h1] at h
  | ok v =>
    obtain ⟨x, k⟩ := v
    simp only [h1] at h
    split at h
    · cases h2 : byteBut true s (k + 1) with
      | error f => simp [h2] at h
      | ok v =>
        obtain ⟨y, l⟩ := v
        simp only [h2] at h
        split at h
        · cases h
        · cases h; exact (byteBut_ok h2).2.1
    · cases h; exact (byteBut_ok h1).2.1
theorem items_up {s : ByteArray} : ∀ {n : Nat} {set : Nat → Bool} {i : Nat} {set' : Nat → Bool} {j : Nat}, items s n set i = .ok (set', j) → (∀ c, set c = true → c < 256) → ∀ c, set' c = true → c < 256
  | 0, _, _, _, _, h, _ => by cases h
  | n + 1, set, i, set', j, h, hs => by
    unfold items at h
    cases h1 : item s i with
    | error f => simp [h1] at h
    | ok v =>
      obtain ⟨a, b, k⟩ := v
      simp only [h1] at h
      have hb := item_up h1
      have hn : ∀ c, add set a b c = true → c < 256 := fun c hc => by
        unfold add at hc
        rw [Bool.or_eq_true] at hc
        rcases hc with hc | hc
        · exact hs c hc
        · rw [Bool.and_eq_true, decide_eq_true_eq, decide_eq_true_eq] at hc; omega
      split at h
      · cases h; exact hn
      · exact items_up h hn

theorem number_least {m : Int} {s : ByteArray} {i j : Nat} {v : Int} (h : number m s i = .ok (v, j)) : m ≤ v := by
  unfold number at h
  split at h
  · split at h
    · cases h
    · rename_i q; injection h with h; rw [h] at q; simp only at q; omega
  · cases h
theorem bounds_mm {s : ByteArray} {i j : Nat} {m n : Int} (h : bounds s i = .ok (m, n, j)) : 0 ≤ m ∧ (n = -1 ∨ m ≤ n) := by
  unfold bounds at h
  cases h1 : number 0 s i with
  | error f => simp [h1] at h
  | ok v =>
    obtain ⟨x, k⟩ := v
    have h0 := number_least h1
    simp only [h1] at h
    split at h
    · split at h
      · cases h2 : number x s (k + 1) with
        | error f => simp [h2] at h
        | ok v =>
          obtain ⟨y, l⟩ := v
          have h5 := number_least h2
          simp only [h2] at h
          cases h3 : need 125 s l with
          | error f => simp [h3] at h
          | ok u => simp only [h3] at h; cases h; exact ⟨h0, Or.inr h5⟩
      · cases h3 : need 125 s (k + 1) with
        | error f => simp [h3] at h
        | ok u => simp only [h3] at h; cases h; exact ⟨h0, Or.inl rfl⟩
    · cases h3 : need 125 s k with
      | error f => simp [h3] at h
      | ok u => simp only [h3] at h; cases h; exact ⟨h0, Or.inr (Int.le_refl _)⟩
theorem count_mm {s : ByteArray} {i j : Nat} {m n : Int} (h : count s i = .ok (m, n, j)) : (m < 0 → m = -1 ∧ n = 0) ∧ (0 ≤ m → n = -1 ∨ m ≤ n) := by
  unfold count at h
  split at h
  · cases h; exact ⟨by omega, by omega⟩
  · split at h
    · cases h; exact ⟨by omega, by omega⟩
    · split at h
      · cases h; exact ⟨by omega, by omega⟩
      · split at h
        · have := bounds_mm h; exact ⟨by omega, fun _ => this.2⟩
        · cases h; exact ⟨by omega, by omega⟩

def CanF (f : At → Res (Tr × At)) : Prop := ∀ x t y, f x = .ok (t, y) → Can [t]
theorem list_can {s : ByteArray} {i j : Nat} {t : Tr} (h : list s i = .ok (t, j)) : Can [t] := by
  unfold list at h
  simp only [] at h
  cases h1 : items s (s.size + 1) (fun _ => false) (if isAt s i 94 = true then i + 1 else i) with
  | error f => simp [h1] at h
  | ok v =>
    obtain ⟨set, k⟩ := v
    simp only [h1] at h
    cases h
    refine Can_one ⟨⟨?_, ?_, ?_, ?_, ?_, ?_, ?_, ?_, ?_, ?_, ?_, ?_, ?_⟩, ?_, ?_, ?_⟩ Can_nil <;> simp [blank]
    exact items_up h1 (fun _ h => by simp at h)
theorem atom_can {s : ByteArray} {d : Nat} {sub : At → Res (Tr × At)} (hs : CanF sub) {x : At} {t : Tr} {y : At} (h : atom sub s d x = .ok (t, y)) : Can [t] := by
  unfold atom at h
  by_cases c1 : isAt s x.i 40 = true
  · rw [if_pos c1] at h
    unfold group at h
    cases hh : head s d x with
    | error f => rw [hh] at h; cases h
    | ok v =>
      obtain ⟨k, z⟩ := v
      rw [hh] at h
      cases hb : sub z with
      | error f => simp [hb] at h
      | ok v =>
        obtain ⟨t', u⟩ := v
        have b := hs z t' u hb
        cases hn : need 41 s u.i with
        | error f => simp [hb, hn] at h
        | ok j =>
          simp [hb, hn] at h; obtain ⟨rfl, rfl⟩ := h
          refine Can_one ⟨⟨?_, ?_, ?_, ?_, ?_, ?_, ?_, ?_, ?_, ?_, ?_, ?_, ?_⟩, ?_, ?_, ?_⟩ b <;> simp [blank]
  rw [if_neg c1] at h
  by_cases c2 : isAt s x.i 91 = true
  · rw [if_pos c2] at h
    cases h1 : list s (x.i + 1) with
    | error f => simp [h1] at h
    | ok v => obtain ⟨t', j⟩ := v; simp [h1] at h; obtain ⟨rfl, rfl⟩ := h; exact list_can h1
  rw [if_neg c2] at h
  by_cases c3 : isAt s x.i 46 = true
  · rw [if_pos c3] at h; cases h
    refine Can_one ⟨⟨?_, ?_, ?_, ?_, ?_, ?_, ?_, ?_, ?_, ?_, ?_, ?_, ?_⟩, ?_, ?_, ?_⟩ Can_nil <;> simp [blank]
  rw [if_neg c3] at h
  cases h1 : byteBut false s x.i with
  | error f => simp [h1] at h
  | ok v =>
    obtain ⟨b, j⟩ := v
    have hb := byteBut_ok h1
    simp [h1] at h; obtain ⟨rfl, rfl⟩ := h
    refine Can_one ⟨⟨?_, ?_, ?_, ?_, ?_, ?_, ?_, ?_, ?_, ?_, ?_, ?_, ?_⟩, ?_, ?_, ?_⟩ Can_nil <;> simp [blank]
    omega
theorem part_can {s : ByteArray} {d : Nat} {sub : At → Res (Tr × At)} (hs : CanF sub) {x : At} {t : Tr} {y : At} (h : part sub s d x = .ok (t, y)) : Can [t] := by
  unfold part at h
  cases h1 : atom sub s d x with
  | error f => simp [h1] at h
  | ok v =>
    obtain ⟨t', z⟩ := v
    have g := atom_can hs h1
    rw [Can_cons] at g
    cases h2 : count s z.i with
    | error f => simp [h1, h2] at h
    | ok v =>
      obtain ⟨m, n, j⟩ := v
      have hb := count_bd h2
      have hm := count_mm h2
      simp [h1, h2] at h; obtain ⟨rfl, rfl⟩ := h
      have a := g.1.1
      exact Can_one ⟨⟨a.kind, a.byte, a.num, a.told, a.s0, a.s1, a.s2, a.s3, a.not, hm.1, ⟨hb.2.2.1, hb.2.2.2⟩, hb.2.1, hm.2⟩, g.1.2⟩ g.2.1
theorem parts_can {s : ByteArray} {d : Nat} {sub : At → Res (Tr × At)} (hs : CanF sub) : ∀ {n : Nat} {l : List Tr} {x : At} {l' : List Tr} {y : At}, parts sub s d n l x = .ok (l', y) → Can l → Can l'
  | 0, _, _, _, _, h, _ => by cases h
  | n + 1, l, x, l', y, h, hl => by
    unfold parts at h
    split at h
    · cases h; exact hl
    · cases h1 : part sub s d x with
      | error f => simp [h1] at h
      | ok v =>
        obtain ⟨t', z⟩ := v
        simp only [h1] at h
        exact parts_can hs h (Can_append _ _ hl (part_can hs h1))
theorem row_can {s : ByteArray} {d : Nat} {sub : At → Res (Tr × At)} (hs : CanF sub) : CanF (row sub s d) := by
  intro x t y h
  unfold row at h
  cases h1 : parts sub s d (s.size + 1) [] x with
  | error f => simp [h1] at h
  | ok v =>
    obtain ⟨l, z⟩ := v
    simp [h1] at h; obtain ⟨rfl, rfl⟩ := h
    refine Can_one ⟨⟨?_, ?_, ?_, ?_, ?_, ?_, ?_, ?_, ?_, ?_, ?_, ?_, ?_⟩, ?_, ?_, ?_⟩ (parts_can hs h1 Can_nil) <;> simp [blank]
theorem rows_can {s : ByteArray} {d : Nat} {sub : At → Res (Tr × At)} (hs : CanF sub) : ∀ {n : Nat} {l : List Tr} {x : At} {l' : List Tr} {y : At}, rows sub s d n l x = .ok (l', y) → Can l → Can l' ∧ l' ≠ []
  | 0, _, _, _, _, h, _ => by cases h
  | n + 1, l, x, l', y, h, hl => by
    unfold rows at h
    cases h1 : row sub s d x with
    | error f => simp [h1] at h
    | ok v =>
      obtain ⟨t', z⟩ := v
      have m := row_can hs x t' z h1
      simp only [h1] at h
      split at h
      · exact rows_can hs h (Can_append _ _ hl m)
      · cases h; exact ⟨Can_append _ _ hl m, by simp⟩
theorem choice_can (s : ByteArray) : ∀ k, CanF (choice s k)
  | 0 => by intro x t y h; cases h
  | k + 1 => by
    intro x t y h
    unfold choice at h
    cases h1 : rows (choice s k) s (8 - k) (s.size + 1) [] x with
    | error f => simp [h1] at h
    | ok v =>
      obtain ⟨l, z⟩ := v
      simp [h1] at h; obtain ⟨rfl, rfl⟩ := h
      have q := rows_can (choice_can s k) h1 Can_nil
      refine Can_one ⟨⟨?_, ?_, ?_, ?_, ?_, ?_, ?_, ?_, ?_, ?_, ?_, ?_, ?_⟩, ?_, ?_, ?_⟩ q.1 <;> simp [blank]
      exact q.2
theorem read_can {s : ByteArray} {t : Tr} {n : Int} (h : read s = .ok (t, n)) : Can [t] := by
  unfold read at h
  split at h
  · cases h
  · cases h1 : choice s 9 ⟨0, 0⟩ with
    | error f => simp [h1] at h
    | ok v =>
      obtain ⟨t', y⟩ := v
      simp only [h1] at h
      split at h
      · cases h
      · split at h
        · cases h
        · cases h; exact choice_can s 9 _ _ _ h1
end Sp
end Go.Proofs.YtcpfpnjkfahjcaaGreat

/- The groups of what is still to be matched of a node, when some of it is done: no program is named here. -/
set_option linter.unusedSimpArgs false
set_option linter.unusedVariables false
namespace Go.Proofs.YtcpfpnjkfahjcaaGreat
namespace Sp

theorem greatest_congr {p q : Nat → Bool} {i : Nat} : ∀ {j : Nat}, (∀ k, i ≤ k → k ≤ j → p k = q k) → greatest p i j = greatest q i j
  | 0, h => by
    unfold greatest
    by_cases hi : i = 0
    · subst hi; rw [h 0 (by omega) (by omega)]
    · rw [if_neg (fun x => hi x.1), if_neg (fun x => hi x.1)]
  | j + 1, h => by
    unfold greatest
    rw [greatest_congr (p := p) (q := q) (j := j) (fun k h1 h2 => h k h1 (by omega))]
    by_cases hi : i ≤ j + 1
    · rw [h (j + 1) hi (by omega)]
    · rw [if_neg (fun x => hi x.1), if_neg (fun x => hi x.1)]
theorem greatest_is {p : Nat → Bool} {i j k : Nat} (h1 : i ≤ k) (h2 : k ≤ j) (h3 : p k = true) (h4 : ∀ m, k < m → m ≤ j → p m = false) : greatest p i j = some k := by
  cases hg : greatest p i j with
  | none => have := greatest_none hg k h1 h2; rw [h3] at this; cases this
  | some m =>
    have r := greatest_some hg
    rcases Nat.lt_trichotomy k m with q | q | q
    · have := h4 m q r.2.1; rw [r.2.2.1] at this; cases this
    · rw [q]
    · have := r.2.2.2 k q h2; rw [h3] at this; cases this
theorem greatest_lower {p : Nat → Bool} {i i' j k : Nat} (h : greatest p i j = some k) (hi : i' ≤ i) : greatest p i' j = some k := by
  have r := greatest_some h
  exact greatest_is (by omega) r.2.1 r.2.2.1 r.2.2.2
theorem cutB_great {p q : Nat → Nat → Bool} {lo i j : Nat} (h : cutB p q lo i j = true) : ∃ k, greatest (fun k => p i k && q k j) lo j = some k := by
  unfold cutB at h
  exact Option.isSome_iff_exists.mp h

theorem turnsG_fuel (t : Sem) : ∀ (f g m : Nat) (n : Option Nat) (i j : Nat), m + (j - i) < f → m + (j - i) < g → turnsG t f m n i j = turnsG t g m n i j
  | 0, _, _, _, _, _, h, _ => by omega
  | _ + 1, 0, _, _, _, _, _, h => by omega
  | f + 1, g + 1, 0, n, i, j, h1, h2 => by
    rw [turnsG, turnsG]
    have e : greatest (fun k => t.m i k && turnsM t f 0 (n.map (· - 1)) k j) (i + 1) j = greatest (fun k => t.m i k && turnsM t g 0 (n.map (· - 1)) k j) (i + 1) j :=
      greatest_congr fun k hk hj => by rw [turns_fuel t f g 0 _ k j (by omega) (by omega)]
    rw [e]
    cases hg : greatest (fun k => t.m i k && turnsM t g 0 (n.map (· - 1)) k j) (i + 1) j with
    | none => rfl
    | some k =>
      have r := greatest_some hg
      simp only
      rw [turnsG_fuel t f g 0 _ k j (by omega) (by omega)]
  | f + 1, g + 1, m + 1, n, i, j, h1, h2 => by
    rw [turnsG, turnsG]
    have e : greatest (fun k => t.m i k && turnsM t f m (n.map (· - 1)) k j) i j = greatest (fun k => t.m i k && turnsM t g m (n.map (· - 1)) k j) i j :=
      greatest_congr fun k hk hj => by rw [turns_fuel t f g m _ k j (by omega) (by omega)]
    rw [e]
    cases hg : greatest (fun k => t.m i k && turnsM t g m (n.map (· - 1)) k j) i j with
    | none => rfl
    | some k =>
      have r := greatest_some hg
      simp only
      rw [turnsG_fuel t f g m _ k j (by omega) (by omega)]

def turnsGD (t : Sem) (m : Nat) (n : Option Nat) (d i j : Nat) : List (Nat × Nat × Nat) := turnsG t (m - d + (j - i) + 1) (m - d) (n.map (· - d)) i j
theorem turnsGD_less (t : Sem) (m : Nat) (n : Option Nat) (d i j k : Nat) (h : d < m) (hk : greatest (fun k => t.m i k && turnsD t m n (d + 1) k j) i j = some k) : turnsGD t m n d i j = t.g i k ++ turnsGD t m n (d + 1) k j := by
  obtain ⟨e, he⟩ : ∃ e, m - d = e + 1 := ⟨m - d - 1, by omega⟩
  have e2 : m - (d + 1) = e := by omega
  have e3 : ((n.map (· - d)).map (· - 1)) = n.map (· - (d + 1)) := by cases n <;> simp; omega
  have r := greatest_some hk
  unfold turnsGD
  rw [he, turnsG, e3]
  have e4 : greatest (fun k => t.m i k && turnsM t (e + 1 + (j - i)) e (n.map (· - (d + 1))) k j) i j = some k := by
    rw [← hk]
    refine greatest_congr fun x hx hj => ?_
    unfold turnsD
    rw [e2, turns_fuel t (e + 1 + (j - i)) (e + (j - x) + 1) e _ x j (by omega) (by omega)]
  rw [e4]
  simp only
  rw [e2, turnsG_fuel t (e + 1 + (j - i)) (e + (j - k) + 1) e _ k j (by omega) (by omega)]
theorem turnsGD_more (t : Sem) (m : Nat) (n : Option Nat) (d i j k : Nat) (h : m ≤ d) (hij : i < j) (hk : greatest (fun k => t.m i k && turnsD t m n (d + 1) k j) (i + 1) j = some k) : turnsGD t m n d i j = t.g i k ++ turnsGD t m n (d + 1) k j := by
  have he : m - d = 0 := by omega
  have e2 : m - (d + 1) = 0 := by omega
  have e3 : ((n.map (· - d)).map (· - 1)) = n.map (· - (d + 1)) := by cases n <;> simp; omega
  have r := greatest_some hk
  unfold turnsGD
  rw [he, turnsG, e3]
  have e4 : greatest (fun k => t.m i k && turnsM t (0 + (j - i)) 0 (n.map (· - (d + 1))) k j) (i + 1) j = some k := by
    rw [← hk]
    refine greatest_congr fun x hx hj => ?_
    unfold turnsD
    rw [e2, turns_fuel t (0 + (j - i)) (0 + (j - x) + 1) 0 _ x j (by omega) (by omega)]
  have e5 : (i == j) = false := by simp; omega
  rw [e4, e5]
  simp only
  rw [e2, turnsG_fuel t (0 + (j - i)) (0 + (j - k) + 1) 0 _ k j (by omega) (by omega)]
  simp
theorem turnsGD_done (t : Sem) (m : Nat) (n : Option Nat) (d i : Nat) (h : m ≤ d) : turnsGD t m n d i i = [] := by
  unfold turnsGD
  rw [show m - d = 0 by omega, turnsG]; simp
theorem turnsGD_endless (t : Sem) (m d i j : Nat) (h : m ≤ d) : turnsGD t m none d i j = turnsGD t m none m i j := by
  unfold turnsGD
  rw [show m - d = m - m by omega]; rfl

/-- The groups of what is still to be matched of a tree of which some parts or turns are done. -/
def spotG (s : ByteArray) (t : Tr) (d i j : Nat) : List (Nat × Nat × Nat) :=
  if 0 ≤ t.lab.min then turnsGD (bareSem s t.lab (sems s t.kids)) t.lab.min.toNat (most t.lab.max) d i j
  else if t.lab.kind = 5 then rowG ((sems s t.kids).drop d) i j
  else (sem s t).g i j
theorem spotG_zero (s : ByteArray) (t : Tr) (i j : Nat) : spotG s t 0 i j = (sem s t).g i j := by
  unfold spotG sem node
  split
  · rename_i h
    rw [if_neg (by omega)]
    unfold turnsGD
    simp
  · rename_i h
    split
    · rename_i hk
      rw [if_pos (by omega)]
      unfold bareSem
      simp [hk]
    · rfl
theorem sems_get (s : ByteArray) : ∀ (l : List Tr) (d : Nat) (u : Tr), l[d]? = some u → (sems s l).drop d = sem s u :: (sems s l).drop (d + 1)
  | [], _, _, h => by simp at h
  | x :: r, 0, u, h => by simp at h; subst h; rw [sems_cons]; rfl
  | x :: r, d + 1, u, h => by
    rw [sems_cons]
    simp only [List.drop_succ_cons]
    exact sems_get s r d u (by simpa using h)
theorem sems_len (s : ByteArray) : ∀ (l : List Tr), (sems s l).length = l.length
  | [] => by rw [sems_nil]; rfl
  | x :: r => by rw [sems_cons]; simp [sems_len s r]

/-- A row, its part d being next. -/
theorem row_next {s : ByteArray} {t : Tr} {d i j : Nat} {u : Tr} (hm : t.lab.min < 0) (hk : t.lab.kind = 5) (hu : t.kids[d]? = some u) (h : spotM s t d i j = true) :
    ∃ k, greatest (fun k => (sem s u).m i k && spotM s t (d + 1) k j) i j = some k ∧ spotG s t d i j = (sem s u).g i k ++ spotG s t (d + 1) k j := by
  have e1 : ∀ d' i' j', spotM s t d' i' j' = rowM ((sems s t.kids).drop d') i' j' := fun d' i' j' => by unfold spotM; rw [if_neg (by omega), if_pos hk]
  have e2 : ∀ d' i' j', spotG s t d' i' j' = rowG ((sems s t.kids).drop d') i' j' := fun d' i' j' => by unfold spotG; rw [if_neg (by omega), if_pos hk]
  rw [e1, sems_get s _ d u hu, rowM] at h
  obtain ⟨k, hk'⟩ := cutB_great h
  have e3 : greatest (fun k => (sem s u).m i k && spotM s t (d + 1) k j) i j = some k := by
    rw [← hk']; exact greatest_congr fun x _ _ => by rw [e1]
  refine ⟨k, e3, ?_⟩
  rw [e2, e2, sems_get s _ d u hu, rowG, hk']
theorem row_over {s : ByteArray} {t : Tr} {d i j : Nat} (hm : t.lab.min < 0) (hk : t.lab.kind = 5) (hd : t.kids.length ≤ d) : spotG s t d i j = [] := by
  unfold spotG; rw [if_neg (by omega), if_pos hk, List.drop_eq_nil_of_le (by rw [sems_len]; exact hd), rowG]

/-- Turns: one more. -/
theorem turn_next {s : ByteArray} {t : Tr} {d i j : Nat} (hm : 0 ≤ t.lab.min) (h : spotM s t d i j = true) (hmore : (d : Int) < t.lab.min ∨ i < j) :
    ∃ k, greatest (fun k => (bareSem s t.lab (sems s t.kids)).m i k && spotM s t (d + 1) k j) i j = some k ∧ spotG s t d i j = (bareSem s t.lab (sems s t.kids)).g i k ++ spotG s t (d + 1) k j ∧ ((d : Int) < t.lab.min ∨ i < k) := by
  have e1 : ∀ d' i' j', spotM s t d' i' j' = turnsD (bareSem s t.lab (sems s t.kids)) t.lab.min.toNat (most t.lab.max) d' i' j' := fun d' i' j' => by unfold spotM; rw [if_pos hm]
  have e2 : ∀ d' i' j', spotG s t d' i' j' = turnsGD (bareSem s t.lab (sems s t.kids)) t.lab.min.toNat (most t.lab.max) d' i' j' := fun d' i' j' => by unfold spotG; rw [if_pos hm]
  have e3 : (fun k => (bareSem s t.lab (sems s t.kids)).m i k && spotM s t (d + 1) k j) = fun k => (bareSem s t.lab (sems s t.kids)).m i k && turnsD (bareSem s t.lab (sems s t.kids)) t.lab.min.toNat (most t.lab.max) (d + 1) k j := by
    funext k; rw [e1]
  rw [e1] at h
  rw [e3, e2]
  by_cases hd : (d : Int) < t.lab.min
  · rw [turnsD_less _ _ _ _ _ _ (by omega)] at h
    obtain ⟨k, hk⟩ := cutB_great h
    exact ⟨k, hk, by rw [e2]; exact turnsGD_less _ _ _ _ _ _ k (by omega) hk, Or.inl hd⟩
  · have hij : i < j := by omega
    rw [turnsD_more _ _ _ _ _ _ (by omega)] at h
    have : (i == j) = false := by simp; omega
    rw [this] at h
    simp at h
    obtain ⟨k, hk⟩ := cutB_great h.2
    have r := greatest_some hk
    exact ⟨k, greatest_lower hk (by omega), by rw [e2]; exact turnsGD_more _ _ _ _ _ _ k (by omega) hij hk, Or.inr (by omega)⟩
theorem turn_over {s : ByteArray} {t : Tr} {d i : Nat} (hm : 0 ≤ t.lab.min) (hd : t.lab.min ≤ (d : Int)) : spotG s t d i i = [] := by
  unfold spotG; rw [if_pos hm]; exact turnsGD_done _ _ _ _ _ (by omega)
theorem turn_endless {s : ByteArray} {t : Tr} {d : Nat} (hm : 0 ≤ t.lab.min) (hx : t.lab.max < 0) (hd : t.lab.min ≤ (d : Int)) (i j : Nat) : spotM s t d i j = spotM s t t.lab.min.toNat i j ∧ spotG s t d i j = spotG s t t.lab.min.toNat i j := by
  unfold spotM spotG
  rw [if_pos hm, if_pos hm, if_pos hm, if_pos hm]
  have : most t.lab.max = none := by unfold most; rw [if_pos hx]
  rw [this]
  exact ⟨turnsD_endless _ _ _ _ _ (by omega), turnsGD_endless _ _ _ _ _ (by omega)⟩
end Sp
end Go.Proofs.YtcpfpnjkfahjcaaGreat
