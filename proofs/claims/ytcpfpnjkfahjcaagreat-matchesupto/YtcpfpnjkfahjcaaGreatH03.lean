import Derived.Test.YtcpfpnjkfahjcaaGreatH02
/- A part of a text is matched as it is alone, its groups moved: no program is named here. -/
set_option linter.unusedSimpArgs false
set_option linter.unusedVariables false
namespace Go.Proofs.YtcpfpnjkfahjcaaGreat
namespace Sp

/-- A group, moved. -/
def sh (a : Nat) (x : Nat × Nat × Nat) : Nat × Nat × Nat := (x.1, x.2.1 + a, x.2.2 + a)
structure Agree (a N : Nat) (x y : Sem) : Prop where
  m : ∀ i j, j ≤ N → y.m (i + a) (j + a) = x.m i j
  g : ∀ i j, j ≤ N → y.g (i + a) (j + a) = (x.g i j).map (sh a)
def Agrees (a N : Nat) : List Sem → List Sem → Prop
  | [], [] => True
  | x :: l, y :: m => Agree a N x y ∧ Agrees a N l m
  | [], _ :: _ => False
  | _ :: _, [] => False

theorem great_sh {p q : Nat → Bool} {a lo j : Nat} (h : ∀ k, k ≤ j → q (k + a) = p k) : greatest q (lo + a) (j + a) = (greatest p lo j).map (· + a) := by
  cases hg : greatest p lo j with
  | some k =>
    have r := greatest_some hg
    show _ = some (k + a)
    refine greatest_is (by omega) (by omega) (by rw [h k r.2.1]; exact r.2.2.1) fun m h1 h2 => ?_
    obtain ⟨m', rfl⟩ : ∃ m', m = m' + a := ⟨m - a, by omega⟩
    rw [h m' (by omega)]; exact r.2.2.2 m' (by omega) (by omega)
  | none =>
    show _ = none
    cases hq : greatest q (lo + a) (j + a) with
    | none => rfl
    | some k =>
      have r := greatest_some hq
      obtain ⟨k', rfl⟩ : ∃ m', k = m' + a := ⟨k - a, by omega⟩
      have := greatest_none hg k' (by omega) (by omega)
      rw [← h k' (by omega), r.2.2.1] at this; cases this
theorem cut_sh {p q p' q' : Nat → Nat → Bool} {a N lo i j : Nat} (hj : j ≤ N) (h1 : ∀ i j, j ≤ N → p' (i + a) (j + a) = p i j) (h2 : ∀ i j, j ≤ N → q' (i + a) (j + a) = q i j) : cutB p' q' (lo + a) (i + a) (j + a) = cutB p q lo i j := by
  unfold cutB
  rw [show greatest (fun k => p' (i + a) k && q' k (j + a)) (lo + a) (j + a) = (greatest (fun k => p i k && q k j) lo j).map (· + a) from great_sh (fun k hk => by rw [h1 i k (by omega), h2 k j hj])]
  simp
theorem rowM_sh {a N : Nat} : ∀ {l m : List Sem}, Agrees a N l m → ∀ i j, j ≤ N → rowM m (i + a) (j + a) = rowM l i j
  | [], [], _, i, j, hj => by
    show (i + a == j + a) = (i == j)
    rw [Bool.eq_iff_iff]; simp
  | x :: l, y :: m, h, i, j, hj => by
    rw [rowM, rowM]
    exact cut_sh hj h.1.m (rowM_sh h.2)
theorem rowG_sh {a N : Nat} : ∀ {l m : List Sem}, Agrees a N l m → ∀ i j, j ≤ N → rowG m (i + a) (j + a) = (rowG l i j).map (sh a)
  | [], [], _, i, j, hj => rfl
  | x :: l, y :: m, h, i, j, hj => by
    rw [rowG, rowG]
    rw [show greatest (fun k => y.m (i + a) k && rowM m k (j + a)) (i + a) (j + a) = (greatest (fun k => x.m i k && rowM l k j) i j).map (· + a) from great_sh (fun k hk => by rw [h.1.m i k (by omega), rowM_sh h.2 k j hj])]
    cases hg : greatest (fun k => x.m i k && rowM l k j) i j with
    | none => rfl
    | some k =>
      have r := greatest_some hg
      simp only [Option.map_some]
      rw [h.1.g i k (by omega), rowG_sh h.2 k j hj, List.map_append]
theorem choiceM_sh {a N : Nat} : ∀ {l m : List Sem}, Agrees a N l m → ∀ i j, j ≤ N → choiceM m (i + a) (j + a) = choiceM l i j
  | [], [], _, i, j, hj => rfl
  | x :: l, y :: m, h, i, j, hj => by
    have := choiceM_sh h.2 i j hj
    unfold choiceM at *
    rw [List.any_cons, List.any_cons, h.1.m i j hj, this]
theorem choiceG_sh {a N : Nat} : ∀ {l m : List Sem}, Agrees a N l m → ∀ i j, j ≤ N → choiceG m (i + a) (j + a) = (choiceG l i j).map (sh a)
  | [], [], _, i, j, hj => rfl
  | x :: l, y :: m, h, i, j, hj => by
    rw [choiceG, choiceG, h.1.m i j hj]
    split
    · exact h.1.g i j hj
    · exact choiceG_sh h.2 i j hj
theorem turnsM_sh {a N : Nat} {x y : Sem} (h : Agree a N x y) : ∀ (f m : Nat) (n : Option Nat) (i j : Nat), j ≤ N → turnsM y f m n (i + a) (j + a) = turnsM x f m n i j
  | 0, _, _, _, _, _ => rfl
  | f + 1, m + 1, n, i, j, hj => by
    rw [turnsM, turnsM]
    exact cut_sh hj h.m (fun i j hj => turnsM_sh h f m _ i j hj)
  | f + 1, 0, n, i, j, hj => by
    rw [turnsM, turnsM, show i + a + 1 = i + 1 + a by omega, cut_sh (lo := i + 1) hj h.m (fun i j hj => turnsM_sh h f 0 _ i j hj)]
    congr 1
    rw [Bool.eq_iff_iff]; simp
theorem turnsG_sh {a N : Nat} {x y : Sem} (h : Agree a N x y) : ∀ (f m : Nat) (n : Option Nat) (i j : Nat), j ≤ N → turnsG y f m n (i + a) (j + a) = (turnsG x f m n i j).map (sh a)
  | 0, _, _, _, _, _ => rfl
  | f + 1, m + 1, n, i, j, hj => by
    rw [turnsG, turnsG]
    rw [show greatest (fun k => y.m (i + a) k && turnsM y f m (n.map (· - 1)) k (j + a)) (i + a) (j + a) = (greatest (fun k => x.m i k && turnsM x f m (n.map (· - 1)) k j) i j).map (· + a) from great_sh (fun k hk => by rw [h.m i k (by omega), turnsM_sh h f m _ k j hj])]
    cases hg : greatest (fun k => x.m i k && turnsM x f m (n.map (· - 1)) k j) i j with
    | none => rfl
    | some k =>
      have r := greatest_some hg
      simp only [Option.map_some]
      rw [h.g i k (by omega), turnsG_sh h f m _ k j hj, List.map_append]
  | f + 1, 0, n, i, j, hj => by
    rw [turnsG, turnsG]
    have e : (i + a == j + a) = (i == j) := by rw [Bool.eq_iff_iff]; simp
    rw [e]
    split
    · rfl
    · rw [show i + a + 1 = i + 1 + a by omega, show greatest (fun k => y.m (i + a) k && turnsM y f 0 (n.map (· - 1)) k (j + a)) (i + 1 + a) (j + a) = (greatest (fun k => x.m i k && turnsM x f 0 (n.map (· - 1)) k j) (i + 1) j).map (· + a) from great_sh (fun k hk => by rw [h.m i k (by omega), turnsM_sh h f 0 _ k j hj])]
      cases hg : greatest (fun k => x.m i k && turnsM x f 0 (n.map (· - 1)) k j) (i + 1) j with
      | none => rfl
      | some k =>
        have r := greatest_some hg
        simp only [Option.map_some]
        rw [h.g i k (by omega), turnsG_sh h f 0 _ k j hj, List.map_append]

/-- The text u lies in the text s, from a on, as far as N. -/
structure Within (u s : ByteArray) (a N : Nat) : Prop where
  b : ∀ i, i < N → byteAt s (i + a) = byteAt u i
  hu : N ≤ u.size
  hs : N + a ≤ s.size
theorem bare_sh {u s : ByteArray} {a N : Nat} (w : Within u s a N) (b : Lab) {l m : List Sem} (h : Agrees a N l m) : Agree a N (bareSem u b l) (bareSem s b m) := by
  unfold bareSem
  split
  · refine ⟨fun i j hj => ?_, fun i j hj => rfl⟩
    show one s (fits b) (i + a) (j + a) = one u (fits b) i j
    unfold one
    have hu := w.hu
    have hs := w.hs
    by_cases q : j = i + 1
    · have e1 : decide (i + a < s.size) = true := by simp; omega
      have e2 : decide (i < u.size) = true := by simp; omega
      have e3 : (j + a == i + a + 1) = true := by simp; omega
      have e4 : (j == i + 1) = true := by simp; omega
      rw [e1, e2, e3, e4, w.b i (by omega)]
    · have e3 : (j + a == i + a + 1) = false := by simp; omega
      have e4 : (j == i + 1) = false := by simp; omega
      rw [e3, e4]; rfl
  · split
    · refine ⟨fun i j hj => choiceM_sh h i j hj, fun i j hj => ?_⟩
      show (if b.told then [(b.num, i + a, j + a)] else []) ++ choiceG m (i + a) (j + a) = _
      rw [choiceG_sh h i j hj, List.map_append]
      cases b.told <;> rfl
    · split
      · exact ⟨fun i j hj => choiceM_sh h i j hj, fun i j hj => choiceG_sh h i j hj⟩
      · exact ⟨fun i j hj => rowM_sh h i j hj, fun i j hj => rowG_sh h i j hj⟩
theorem node_sh {u s : ByteArray} {a N : Nat} (w : Within u s a N) (b : Lab) {l m : List Sem} (h : Agrees a N l m) : Agree a N (node u b l) (node s b m) := by
  have hb := bare_sh w b h
  unfold node
  split
  · exact hb
  · refine ⟨fun i j hj => ?_, fun i j hj => ?_⟩
    · simp only
      rw [show j + a - (i + a) = j - i by omega]; exact turnsM_sh hb _ _ _ i j hj
    · simp only
      rw [show j + a - (i + a) = j - i by omega]; exact turnsG_sh hb _ _ _ i j hj
theorem sems_sh {u s : ByteArray} {a N : Nat} (w : Within u s a N) : ∀ (l : List Tr), Agrees a N (sems u l) (sems s l)
  | [] => by rw [sems_nil, sems_nil]; trivial
  | ⟨b, ks⟩ :: r => by
    rw [sems, sems]
    exact ⟨node_sh w b (sems_sh w ks), sems_sh w r⟩
theorem sem_sh {u s : ByteArray} {a N : Nat} (w : Within u s a N) (t : Tr) : Agree a N (sem u t) (sem s t) := node_sh w _ (sems_sh w t.kids)

theorem byteAt_extract (s : ByteArray) (a b : Nat) (hb : b ≤ s.size) (i : Nat) (hi : i + a < b) : byteAt s (i + a) = byteAt (s.extract a b) i := by
  have hz : (s.extract a b).size = b - a := by rw [ByteArray.size_extract]; omega
  rw [byteAt_in s (i + a) (by omega), byteAt_in _ i (by omega)]
  congr 2
  rw [ByteArray.getElem_extract]
  congr 1; omega
theorem Within.extract {s : ByteArray} {a b : Nat} (hb : b ≤ s.size) (ha : a ≤ b) : Within (s.extract a b) s a (b - a) :=
  ⟨fun i hi => byteAt_extract s a b hb i (by omega), by rw [ByteArray.size_extract]; omega, by omega⟩
theorem part_m {s : ByteArray} {a b : Nat} (hb : b ≤ s.size) (ha : a ≤ b) (t : Tr) : (sem (s.extract a b) t).m 0 (b - a) = (sem s t).m a b := by
  have := (sem_sh (Within.extract hb ha) t).m 0 (b - a) (Nat.le_refl _)
  rw [← this, Nat.zero_add, Nat.sub_add_cancel ha]
theorem part_g {s : ByteArray} {a b : Nat} (hb : b ≤ s.size) (ha : a ≤ b) (t : Tr) : (sem s t).g a b = ((sem (s.extract a b) t).g 0 (b - a)).map (sh a) := by
  have := (sem_sh (Within.extract hb ha) t).g 0 (b - a) (Nat.le_refl _)
  rw [← this, Nat.zero_add, Nat.sub_add_cancel ha]

/-! The groups lie within what is matched. -/
def In (i j : Nat) (l : List (Nat × Nat × Nat)) : Prop := ∀ x ∈ l, i ≤ x.2.1 ∧ x.2.1 ≤ x.2.2 ∧ x.2.2 ≤ j
def SemIn (x : Sem) : Prop := ∀ i j, x.m i j = true → In i j (x.g i j)
theorem In.nil (i j : Nat) : In i j [] := fun _ h => by cases h
theorem In.append {i j : Nat} {l m : List (Nat × Nat × Nat)} (h : In i j l) (k : In i j m) : In i j (l ++ m) := fun x hx => by
  rcases List.mem_append.mp hx with q | q
  · exact h x q
  · exact k x q
theorem In.wide {i j i' j' : Nat} {l : List (Nat × Nat × Nat)} (h : In i j l) (hi : i' ≤ i) (hj : j ≤ j') : In i' j' l := fun x hx => by have := h x hx; omega
theorem rowG_in : ∀ (l : List Sem), (∀ x ∈ l, SemIn x) → (∀ x ∈ l, ∀ i j, x.m i j = true → i ≤ j) → ∀ i j, In i j (rowG l i j)
  | [], _, _, i, j => In.nil _ _
  | x :: l, h, hl, i, j => by
    rw [rowG]
    cases hg : greatest (fun k => x.m i k && rowM l k j) i j with
    | none => exact In.nil _ _
    | some k =>
      have r := greatest_some hg
      have hm := r.2.2.1
      rw [Bool.and_eq_true] at hm
      exact ((h x (List.mem_cons_self ..) i k hm.1).wide (Nat.le_refl _) r.2.1).append ((rowG_in l (fun y hy => h y (List.mem_cons_of_mem _ hy)) (fun y hy => hl y (List.mem_cons_of_mem _ hy)) k j).wide r.1 (Nat.le_refl _))
theorem choiceG_in : ∀ (l : List Sem), (∀ x ∈ l, SemIn x) → ∀ i j, In i j (choiceG l i j)
  | [], _, i, j => In.nil _ _
  | x :: l, h, i, j => by
    rw [choiceG]
    split
    · rename_i q; exact h x (List.mem_cons_self ..) i j q
    · exact choiceG_in l (fun y hy => h y (List.mem_cons_of_mem _ hy)) i j
theorem turnsG_in {x : Sem} (h : SemIn x) : ∀ (f m : Nat) (n : Option Nat) (i j : Nat), In i j (turnsG x f m n i j)
  | 0, _, _, _, _ => In.nil _ _
  | f + 1, m + 1, n, i, j => by
    rw [turnsG]
    cases hg : greatest (fun k => x.m i k && turnsM x f m (n.map (· - 1)) k j) i j with
    | none => exact In.nil _ _
    | some k =>
      have r := greatest_some hg
      have hm := r.2.2.1
      rw [Bool.and_eq_true] at hm
      exact ((h i k hm.1).wide (Nat.le_refl _) r.2.1).append ((turnsG_in h f m _ k j).wide r.1 (Nat.le_refl _))
  | f + 1, 0, n, i, j => by
    rw [turnsG]
    split
    · exact In.nil _ _
    · cases hg : greatest (fun k => x.m i k && turnsM x f 0 (n.map (· - 1)) k j) (i + 1) j with
      | none => exact In.nil _ _
      | some k =>
        have r := greatest_some hg
        have hm := r.2.2.1
        rw [Bool.and_eq_true] at hm
        exact ((h i k hm.1).wide (Nat.le_refl _) r.2.1).append ((turnsG_in h f 0 _ k j).wide (by omega) (Nat.le_refl _))
theorem node_in (s : ByteArray) (a : Lab) (l : List Sem) (h : ∀ x ∈ l, SemIn x) (hl : ∀ x ∈ l, ∀ i j, x.m i j = true → i ≤ j) : SemIn (node s a l) := by
  have hb : SemIn (bareSem s a l) := by
    intro i j hm
    have hij := bare_le s a l hl i j hm
    unfold bareSem
    split
    · exact In.nil _ _
    · split
      · refine In.append ?_ (choiceG_in l h i j)
        split
        · intro x hx; simp at hx; subst hx; exact ⟨Nat.le_refl _, hij, Nat.le_refl _⟩
        · exact In.nil _ _
      · split
        · exact choiceG_in l h i j
        · exact rowG_in l h hl i j
  unfold node
  split
  · exact hb
  · intro i j _; exact turnsG_in hb _ _ _ i j
theorem sems_in (s : ByteArray) : ∀ (l : List Tr), ∀ x ∈ sems s l, SemIn x
  | [], x, hx => by rw [sems_nil] at hx; cases hx
  | ⟨a, ks⟩ :: r, x, hx => by
    rw [sems] at hx
    rcases List.mem_cons.mp hx with q | q
    · rw [q]; exact node_in s a (sems s ks) (sems_in s ks) (sems_le s ks)
    · exact sems_in s r x q
theorem sem_in (s : ByteArray) (t : Tr) : SemIn (sem s t) := node_in s _ _ (sems_in s t.kids) (sems_le s t.kids)
end Sp
end Go.Proofs.YtcpfpnjkfahjcaaGreat

/- The numbers of the groups of a pattern that was read: no program is named here. -/
set_option linter.unusedSimpArgs false
set_option linter.unusedVariables false
namespace Go.Proofs.YtcpfpnjkfahjcaaGreat
namespace Sp

/-- The numbers of the groups are above a, and b at most (0: not told). -/
def NumIn (a b : Int) : List Tr → Prop
  | [] => True
  | ⟨l, ks⟩ :: r => (l.num = 0 ∨ (a < l.num ∧ (l.num : Int) ≤ b)) ∧ NumIn a b ks ∧ NumIn a b r
theorem NumIn_nil (a b : Int) : NumIn a b [] := by rw [NumIn]; trivial
theorem NumIn_cons (a b : Int) (t : Tr) (r : List Tr) : NumIn a b (t :: r) ↔ (t.lab.num = 0 ∨ (a < t.lab.num ∧ (t.lab.num : Int) ≤ b)) ∧ NumIn a b t.kids ∧ NumIn a b r := by
  obtain ⟨l, ks⟩ := t; rw [NumIn]
theorem NumIn_append {a b : Int} : ∀ {l m : List Tr}, NumIn a b l → NumIn a b m → NumIn a b (l ++ m)
  | [], _, _, k => k
  | t :: r, m, h, k => by
    rw [NumIn_cons] at h
    show NumIn a b (t :: (r ++ m))
    rw [NumIn_cons]; exact ⟨h.1, h.2.1, NumIn_append h.2.2 k⟩
theorem NumIn.wide {a b a' b' : Int} (ha : a' ≤ a) (hb : b ≤ b') : ∀ {l : List Tr}, NumIn a b l → NumIn a' b' l
  | [], _ => NumIn_nil _ _
  | ⟨x, ks⟩ :: r, h => by
    rw [NumIn] at h ⊢
    exact ⟨by rcases h.1 with q | q; exact Or.inl q; exact Or.inr ⟨by omega, by omega⟩, h.2.1.wide ha hb, h.2.2.wide ha hb⟩
theorem NumIn_one {a b : Int} {l : Lab} {ks : List Tr} (h : l.num = 0 ∨ (a < l.num ∧ (l.num : Int) ≤ b)) (k : NumIn a b ks) : NumIn a b [⟨l, ks⟩] := by
  rw [NumIn_cons]; exact ⟨h, k, NumIn_nil _ _⟩

def NumF (f : At → Res (Tr × At)) : Prop := ∀ x t y, f x = .ok (t, y) → 0 ≤ x.t → x.t ≤ y.t ∧ NumIn x.t y.t [t]
theorem head_num {s : ByteArray} {d : Nat} {x : At} {k : Nat} {y : At} (h : head s d x = .ok (k, y)) (h0 : 0 ≤ x.t) : (k = 0 ∧ y.t = x.t) ∨ ((k : Int) = x.t + 1 ∧ y.t = x.t + 1) := by
  unfold head at h
  split at h
  · cases h
  · split at h
    · cases h1 : need 58 s (x.i + 2) with
      | error f => simp [h1] at h
      | ok j => simp [h1] at h; obtain ⟨rfl, rfl⟩ := h; exact Or.inl ⟨rfl, rfl⟩
    · split at h
      · cases h
      · cases h; exact Or.inr ⟨by omega, rfl⟩
theorem list_num {s : ByteArray} {i j : Nat} {t : Tr} (a b : Int) (h : list s i = .ok (t, j)) : NumIn a b [t] := by
  unfold list at h
  simp only [] at h
  cases h1 : items s (s.size + 1) (fun _ => false) (if isAt s i 94 = true then i + 1 else i) with
  | error f => simp [h1] at h
  | ok v =>
    obtain ⟨set, k⟩ := v
    simp only [h1] at h
    cases h
    exact NumIn_one (Or.inl rfl) (NumIn_nil _ _)
theorem atom_num {s : ByteArray} {d : Nat} {sub : At → Res (Tr × At)} (hs : NumF sub) : NumF (atom sub s d) := by
  intro x t y h h0
  unfold atom at h
  by_cases c1 : isAt s x.i 40 = true
  · rw [if_pos c1] at h
    unfold group at h
    cases hh : head s d x with
    | error f => rw [hh] at h; cases h
    | ok v =>
      obtain ⟨k, z⟩ := v
      rw [hh] at h
      have a := head_num hh h0
      cases hb : sub z with
      | error f => simp [hb] at h
      | ok v =>
        obtain ⟨t', u⟩ := v
        have b := hs z t' u hb (by omega)
        cases hn : need 41 s u.i with
        | error f => simp [hb, hn] at h
        | ok j =>
          simp [hb, hn] at h; obtain ⟨rfl, rfl⟩ := h
          refine ⟨by show x.t ≤ u.t; omega, NumIn_one ?_ (b.2.wide (by omega) (Int.le_refl _))⟩
          show k = 0 ∨ (x.t < k ∧ (k : Int) ≤ u.t)
          omega
  rw [if_neg c1] at h
  by_cases c2 : isAt s x.i 91 = true
  · rw [if_pos c2] at h
    cases h1 : list s (x.i + 1) with
    | error f => simp [h1] at h
    | ok v => obtain ⟨t', j⟩ := v; simp [h1] at h; obtain ⟨rfl, rfl⟩ := h; exact ⟨Int.le_refl _, list_num _ _ h1⟩
  rw [if_neg c2] at h
  by_cases c3 : isAt s x.i 46 = true
  · rw [if_pos c3] at h; cases h
    exact ⟨Int.le_refl _, NumIn_one (Or.inl rfl) (NumIn_nil _ _)⟩
  rw [if_neg c3] at h
  cases h1 : byteBut false s x.i with
  | error f => simp [h1] at h
  | ok v =>
    obtain ⟨b, j⟩ := v
    simp [h1] at h; obtain ⟨rfl, rfl⟩ := h
    exact ⟨Int.le_refl _, NumIn_one (Or.inl rfl) (NumIn_nil _ _)⟩
theorem part_num {s : ByteArray} {d : Nat} {sub : At → Res (Tr × At)} (hs : NumF sub) : NumF (part sub s d) := by
  intro x t y h h0
  unfold part at h
  cases h1 : atom sub s d x with
  | error f => simp [h1] at h
  | ok v =>
    obtain ⟨t', z⟩ := v
    have g := atom_num hs x t' z h1 h0
    cases h2 : count s z.i with
    | error f => simp [h1, h2] at h
    | ok v =>
      obtain ⟨m, n, j⟩ := v
      simp [h1, h2] at h; obtain ⟨rfl, rfl⟩ := h
      have := (NumIn_cons _ _ _ _).mp g.2
      exact ⟨g.1, NumIn_one this.1 this.2.1⟩
theorem parts_num {s : ByteArray} {d : Nat} {sub : At → Res (Tr × At)} (hs : NumF sub) : ∀ {n : Nat} {l : List Tr} {x : At} {l' : List Tr} {y : At} {a : Int}, parts sub s d n l x = .ok (l', y) → 0 ≤ x.t → a ≤ x.t → NumIn a x.t l → x.t ≤ y.t ∧ NumIn a y.t l'
  | 0, _, _, _, _, _, h, _, _, _ => by cases h
  | n + 1, l, x, l', y, a, h, h0, ha, hl => by
    unfold parts at h
    split at h
    · cases h; exact ⟨Int.le_refl _, hl⟩
    · cases h1 : part sub s d x with
      | error f => simp [h1] at h
      | ok v =>
        obtain ⟨t', z⟩ := v
        have g := part_num hs x t' z h1 h0
        simp only [h1] at h
        have r := parts_num hs h (by omega) (by omega : a ≤ z.t) (NumIn_append (hl.wide (Int.le_refl _) g.1) (g.2.wide ha (Int.le_refl _)))
        exact ⟨by omega, r.2⟩
theorem row_num {s : ByteArray} {d : Nat} {sub : At → Res (Tr × At)} (hs : NumF sub) : NumF (row sub s d) := by
  intro x t y h h0
  unfold row at h
  cases h1 : parts sub s d (s.size + 1) [] x with
  | error f => simp [h1] at h
  | ok v =>
    obtain ⟨l, z⟩ := v
    simp [h1] at h; obtain ⟨rfl, rfl⟩ := h
    have r := parts_num hs h1 h0 (Int.le_refl _) (NumIn_nil _ _)
    exact ⟨r.1, NumIn_one (Or.inl rfl) r.2⟩
theorem rows_num {s : ByteArray} {d : Nat} {sub : At → Res (Tr × At)} (hs : NumF sub) : ∀ {n : Nat} {l : List Tr} {x : At} {l' : List Tr} {y : At} {a : Int}, rows sub s d n l x = .ok (l', y) → 0 ≤ x.t → a ≤ x.t → NumIn a x.t l → x.t ≤ y.t ∧ NumIn a y.t l'
  | 0, _, _, _, _, _, h, _, _, _ => by cases h
  | n + 1, l, x, l', y, a, h, h0, ha, hl => by
    unfold rows at h
    cases h1 : row sub s d x with
    | error f => simp [h1] at h
    | ok v =>
      obtain ⟨t', z⟩ := v
      have g := row_num hs x t' z h1 h0
      have k := NumIn_append (hl.wide (Int.le_refl _) g.1) (g.2.wide ha (Int.le_refl _))
      simp only [h1] at h
      split at h
      · have r := rows_num hs h (by show 0 ≤ z.t; omega) (by show a ≤ z.t; omega) k
        have r1 : z.t ≤ y.t := r.1
        exact ⟨by omega, r.2⟩
      · cases h; exact ⟨g.1, k⟩
theorem choice_num (s : ByteArray) : ∀ k, NumF (choice s k)
  | 0 => by intro x t y h; cases h
  | k + 1 => by
    intro x t y h h0
    unfold choice at h
    cases h1 : rows (choice s k) s (8 - k) (s.size + 1) [] x with
    | error f => simp [h1] at h
    | ok v =>
      obtain ⟨l, z⟩ := v
      simp [h1] at h; obtain ⟨rfl, rfl⟩ := h
      have r := rows_num (choice_num s k) h1 h0 (Int.le_refl _) (NumIn_nil _ _)
      exact ⟨r.1, NumIn_one (Or.inl rfl) r.2⟩
theorem read_num {s : ByteArray} {t : Tr} {n : Int} (h : read s = .ok (t, n)) : 0 ≤ n ∧ NumIn 0 n [t] := by
  unfold read at h
  split at h
  · cases h
  · cases h1 : choice s 9 ⟨0, 0⟩ with
    | error f => simp [h1] at h
    | ok v =>
      obtain ⟨t', y⟩ := v
      simp only [h1] at h
      split at h
      · cases h
      · split at h
        · cases h
        · cases h; exact choice_num s 9 _ _ _ h1 (Int.le_refl _)

/-! Each group that is gone through is of a kind. -/
def AllG (P : Nat × Nat × Nat → Prop) (x : Sem) : Prop := ∀ i j, ∀ y ∈ x.g i j, P y
theorem rowG_all {P : Nat × Nat × Nat → Prop} : ∀ {l : List Sem}, (∀ x ∈ l, AllG P x) → ∀ i j, ∀ y ∈ rowG l i j, P y
  | [], _, i, j, y, hy => by cases hy
  | x :: l, h, i, j, y, hy => by
    rw [rowG] at hy
    cases hg : greatest (fun k => x.m i k && rowM l k j) i j with
    | none => rw [hg] at hy; cases hy
    | some k =>
      rw [hg] at hy
      rcases List.mem_append.mp hy with q | q
      · exact h x (List.mem_cons_self ..) i k y q
      · exact rowG_all (fun z hz => h z (List.mem_cons_of_mem _ hz)) k j y q
theorem choiceG_all {P : Nat × Nat × Nat → Prop} : ∀ {l : List Sem}, (∀ x ∈ l, AllG P x) → ∀ i j, ∀ y ∈ choiceG l i j, P y
  | [], _, i, j, y, hy => by cases hy
  | x :: l, h, i, j, y, hy => by
    rw [choiceG] at hy
    split at hy
    · exact h x (List.mem_cons_self ..) i j y hy
    · exact choiceG_all (fun z hz => h z (List.mem_cons_of_mem _ hz)) i j y hy
theorem turnsG_all {P : Nat × Nat × Nat → Prop} {x : Sem} (h : AllG P x) : ∀ (f m : Nat) (n : Option Nat) (i j : Nat), ∀ y ∈ turnsG x f m n i j, P y
  | 0, _, _, _, _, y, hy => by cases hy
  | f + 1, m + 1, n, i, j, y, hy => by
    rw [turnsG] at hy
    cases hg : greatest (fun k => x.m i k && turnsM x f m (n.map (· - 1)) k j) i j with
    | none => rw [hg] at hy; cases hy
    | some k =>
      rw [hg] at hy
      rcases List.mem_append.mp hy with q | q
      · exact h i k y q
      · exact turnsG_all h f m _ k j y q
  | f + 1, 0, n, i, j, y, hy => by
    rw [turnsG] at hy
    split at hy
    · cases hy
    · cases hg : greatest (fun k => x.m i k && turnsM x f 0 (n.map (· - 1)) k j) (i + 1) j with
      | none => rw [hg] at hy; cases hy
      | some k =>
        rw [hg] at hy
        rcases List.mem_append.mp hy with q | q
        · exact h i k y q
        · exact turnsG_all h f 0 _ k j y q
theorem node_all {P : Nat × Nat × Nat → Prop} (s : ByteArray) (a : Lab) {l : List Sem} (h : ∀ x ∈ l, AllG P x) (ha : a.told = true → ∀ i j, P (a.num, i, j)) : AllG P (node s a l) := by
  have hb : AllG P (bareSem s a l) := by
    intro i j y hy
    unfold bareSem at hy
    split at hy
    · cases hy
    · split at hy
      · rcases List.mem_append.mp hy with q | q
        · split at q
          · rename_i ht; simp at q; subst q; exact ha ht i j
          · cases q
        · exact choiceG_all h i j y q
      · split at hy
        · exact choiceG_all h i j y hy
        · exact rowG_all h i j y hy
  unfold node
  split
  · exact hb
  · intro i j y hy; exact turnsG_all hb _ _ _ i j y hy
def NumP (a b : Int) (y : Nat × Nat × Nat) : Prop := a < y.1 ∧ (y.1 : Int) ≤ b
theorem sems_num (s : ByteArray) {a b : Int} : ∀ (l : List Tr), NumIn a b l → Can l → ∀ x ∈ sems s l, AllG (NumP a b) x
  | [], _, _, x, hx => by rw [sems_nil] at hx; cases hx
  | ⟨c, ks⟩ :: r, h, hc, x, hx => by
    rw [sems] at hx
    rw [NumIn] at h
    rw [Can] at hc
    rcases List.mem_cons.mp hx with q | q
    · rw [q]
      refine node_all s c (sems_num s ks h.2.1 hc.2.1) (fun ht i j => ?_)
      have := hc.1.1.told
      rw [ht] at this
      have h0 : c.num ≠ 0 := of_decide_eq_true this.symm
      rcases h.1 with q | q
      · exact absurd q h0
      · exact q
    · exact sems_num s r h.2.2 hc.2.2 x q
theorem sem_num (s : ByteArray) {a b : Int} {t : Tr} (h : NumIn a b [t]) (hc : Can [t]) : AllG (NumP a b) (sem s t) :=
  sems_num s [t] h hc _ (by rw [sems_cons]; exact List.mem_cons_self ..)
end Sp
end Go.Proofs.YtcpfpnjkfahjcaaGreat

/- Where the groups are: the last of each that is gone through: no program is named here. -/
set_option linter.unusedSimpArgs false
set_option linter.unusedVariables false
namespace Go.Proofs.YtcpfpnjkfahjcaaGreat
namespace Sp

abbrev Gr := Nat × Nat × Nat
def put (f : Nat → Int × Int) (x : Gr) : Nat → Int × Int := fun k => if k = x.1 then ((x.2.1 : Int), (x.2.2 : Int)) else f k
def puts (f : Nat → Int × Int) (l : List Gr) : Nat → Int × Int := l.foldl put f
def nowh : Nat → Int × Int := fun _ => (-1, -1)
/-- Where the groups are, when the part from 0 to a place is matched. -/
def spansOf (l : List Gr) (to : Nat) : Nat → Int × Int := puts nowh ((0, 0, to) :: l)

theorem puts_nil (f : Nat → Int × Int) : puts f [] = f := rfl
theorem puts_cons (f : Nat → Int × Int) (x : Gr) (l : List Gr) : puts f (x :: l) = puts (put f x) l := rfl
theorem puts_append (f : Nat → Int × Int) (l m : List Gr) : puts f (l ++ m) = puts (puts f l) m := by unfold puts; rw [List.foldl_append]
theorem puts_miss (k : Nat) : ∀ (l : List Gr) (f : Nat → Int × Int), (∀ x ∈ l, x.1 ≠ k) → puts f l k = f k
  | [], f, _ => rfl
  | x :: l, f, h => by
    rw [puts_cons, puts_miss k l (put f x) (fun y hy => h y (List.mem_cons_of_mem _ hy))]
    unfold put
    rw [if_neg (fun q => h x (List.mem_cons_self ..) q.symm)]
/-- Where a group is by the list alone, else where it was. -/
theorem puts_over (k : Nat) : ∀ (l : List Gr) (f : Nat → Int × Int), puts f l k = if 0 ≤ (puts nowh l k).1 then puts nowh l k else f k
  | [], f => rfl
  | x :: l, f => by
    rw [puts_cons, puts_cons, puts_over k l (put f x), puts_over k l (put nowh x)]
    by_cases h : 0 ≤ (puts nowh l k).1
    · simp only [if_pos h]
    · simp only [if_neg h]
      unfold put
      by_cases hk : k = x.1
      · simp only [if_pos hk]
        rw [if_pos (Int.natCast_nonneg _)]
      · simp only [if_neg hk]
        rw [if_neg (by show ¬ (0 : Int) ≤ -1; omega)]
theorem puts_is (k : Nat) : ∀ (l : List Gr), puts nowh l k = (-1, -1) ∨ ∃ x ∈ l, x.1 = k ∧ puts nowh l k = ((x.2.1 : Int), (x.2.2 : Int))
  | [] => Or.inl rfl
  | x :: l => by
    rw [puts_cons, puts_over]
    rcases puts_is k l with h | ⟨y, h1, h2, h3⟩
    · rw [h, if_neg (by show ¬ (0 : Int) ≤ -1; omega)]
      unfold put
      by_cases hk : k = x.1
      · right; exact ⟨x, List.mem_cons_self .., hk.symm, by rw [if_pos hk]⟩
      · left; rw [if_neg hk]; rfl
    · right
      refine ⟨y, List.mem_cons_of_mem _ h1, h2, ?_⟩
      rw [h3, if_pos (Int.natCast_nonneg _)]
theorem puts_none (k : Nat) (l : List Gr) (h : ∀ x ∈ l, x.1 ≠ k) : puts nowh l k = (-1, -1) := puts_miss k l nowh h
/-- Moved by a. -/
def mv (a : Int) (x : Int × Int) : Int × Int := if 0 ≤ x.1 then (x.1 + a, x.2 + a) else x
theorem puts_sh (a k : Nat) : ∀ (l : List Gr), puts nowh (l.map (sh a)) k = mv a (puts nowh l k)
  | [] => rfl
  | x :: l => by
    rw [List.map_cons, puts_cons, puts_cons, puts_over, puts_over k l (put nowh x), puts_sh a k l]
    have e : put nowh (sh a x) k = mv a (put nowh x k) := by
      unfold put mv sh
      by_cases hk : k = x.1
      · simp only [if_pos hk]
        rw [if_pos (Int.natCast_nonneg _)]
        simp
      · simp only [if_neg hk]
        rw [if_neg (by show ¬ (0 : Int) ≤ -1; omega)]
    rw [e]
    by_cases h : 0 ≤ (puts nowh l k).1
    · rw [if_pos h, if_pos (by unfold mv; rw [if_pos h]; simp only; omega)]
    · rw [if_neg h, if_neg (by unfold mv; rw [if_neg h]; exact h)]
/-- A group of another number. -/
def rn (n : Nat) (x : Gr) : Gr := (x.1 + n, x.2)
theorem puts_rn (n k : Nat) : ∀ (l : List Gr), puts nowh (l.map (rn n)) (k + n) = puts nowh l k
  | [] => rfl
  | x :: l => by
    rw [List.map_cons, puts_cons, puts_cons, puts_over, puts_over k l (put nowh x), puts_rn n k l]
    have e : put nowh (rn n x) (k + n) = put nowh x k := by
      unfold put rn
      by_cases hk : k = x.1
      · rw [if_pos (by simp [hk]), if_pos hk]
      · rw [if_neg (by simp; exact hk), if_neg hk]; rfl
    rw [e]
theorem spansOf_zero (l : List Gr) (to : Nat) (h : ∀ x ∈ l, x.1 ≠ 0) : spansOf l to 0 = (0, (to : Int)) := by
  unfold spansOf
  rw [puts_cons, puts_miss 0 l _ h]
  unfold put; simp
theorem spansOf_pos (l : List Gr) (to k : Nat) (hk : k ≠ 0) : spansOf l to k = puts nowh l k := by
  unfold spansOf
  rw [puts_cons, puts_over]
  unfold put
  simp only
  rw [if_neg hk]
  split
  · rfl
  · rename_i h
    rcases puts_is k l with q | ⟨y, h1, h2, h3⟩
    · rw [q]; rfl
    · rw [h3] at h; exact absurd (Int.natCast_nonneg _) h
end Sp
end Go.Proofs.YtcpfpnjkfahjcaaGreat

/- A pattern that stands within another one, ahead of a bracket, is read as it is alone, its groups numbered further, unless a limit is passed: no program is named here. -/
set_option linter.unusedSimpArgs false
set_option linter.unusedVariables false
namespace Go.Proofs.YtcpfpnjkfahjcaaGreat
namespace Sp

/-- The text s stands in u from o on, a closing bracket behind it. -/
structure Sits (s u : ByteArray) (o : Nat) : Prop where
  size : s.size + o < u.size
  byte : ∀ i, i < s.size → byteAt u (i + o) = byteAt s i
  last : byteAt u (s.size + o) = 41
theorem Sits.is {s u : ByteArray} {o : Nat} (h : Sits s u o) {i : Nat} {c : Int} (hi : isAt s i c = true) : isAt u (i + o) c = true := by
  have := h.size
  simp [isAt] at hi ⊢
  rw [h.byte i hi.1]; exact ⟨by omega, hi.2⟩
theorem Sits.iff {s u : ByteArray} {o : Nat} (h : Sits s u o) {i : Nat} {c : Int} (hi : i ≤ s.size) (hc : c ≠ 41) : isAt u (i + o) c = isAt s i c := by
  rcases Nat.lt_or_eq_of_le hi with q | q
  · have := h.size
    unfold isAt
    rw [h.byte i q]
    simp [q]; omega
  · subst q
    have := h.size
    unfold isAt
    rw [h.last]
    simp; omega
theorem Sits.lt {s u : ByteArray} {o : Nat} (h : Sits s u o) {i : Nat} {c : Int} (hi : i < s.size) : isAt u (i + o) c = isAt s i c := by
  have := h.size
  unfold isAt
  rw [h.byte i hi]
  simp [hi]; omega
theorem Sits.dig {s u : ByteArray} {o : Nat} (h : Sits s u o) {i : Nat} (hi : i ≤ s.size) : digitAt u (i + o) = digitAt s i := by
  have := h.size
  rcases Nat.lt_or_eq_of_le hi with q | q
  · unfold digitAt
    rw [h.byte i q]
    have e1 : decide (i + o < u.size) = true := by simp; omega
    have e2 : decide (i < s.size) = true := by simp; omega
    rw [e1, e2]
  · subst q
    unfold digitAt
    rw [h.last]
    simp
theorem need_sit {s u : ByteArray} {o : Nat} (h : Sits s u o) {c : Int} {i j : Nat} (k : need c s i = .ok j) : need c u (i + o) = .ok (j + o) := by
  unfold need at k ⊢
  split at k
  · rename_i q; cases k
    rw [if_pos (h.is q), show i + o + 1 = i + 1 + o by omega]
  · cases k
theorem hexPair_sit {s u : ByteArray} {o : Nat} (h : Sits s u o) {i j : Nat} {v : Int} (k : hexPair s i = .ok (v, j)) : hexPair u (i + o) = .ok (v, j + o) := by
  have hz := h.size
  unfold hexPair at k ⊢
  split at k
  · rename_i q
    split at k
    · rename_i r; cases k
      have e : i + o + 1 = i + 1 + o := by omega
      rw [e, h.byte i q.1, h.byte (i + 1) r.1, if_pos ⟨by omega, q.2⟩, if_pos ⟨by omega, r.2⟩, show i + o + 2 = i + 2 + o by omega]
    · cases k
  · cases k
theorem escape_sit {s u : ByteArray} {o : Nat} (h : Sits s u o) {i j : Nat} {v : Int} (k : escape s i = .ok (v, j)) : escape u (i + o) = .ok (v, j + o) := by
  have hz := h.size
  unfold escape at k ⊢
  by_cases hi : i < s.size
  · rw [if_pos hi] at k
    rw [if_pos (by omega), h.byte i hi]
    have e : i + o + 1 = i + 1 + o := by omega
    by_cases c1 : byteAt s i = 110
    · rw [if_pos c1] at k ⊢; cases k; rw [e]
    rw [if_neg c1] at k ⊢
    by_cases c2 : byteAt s i = 116
    · rw [if_pos c2] at k ⊢; cases k; rw [e]
    rw [if_neg c2] at k ⊢
    by_cases c3 : byteAt s i = 120
    · rw [if_pos c3] at k ⊢; rw [e]; exact hexPair_sit h k
    rw [if_neg c3] at k ⊢
    by_cases c4 : listSign (byteAt s i) = true
    · rw [if_pos c4] at k ⊢; cases k; rw [e]
    rw [if_neg c4] at k; cases k
  · rw [if_neg hi] at k; cases k
theorem byteBut_sit {s u : ByteArray} {o : Nat} (h : Sits s u o) {l : Bool} {i j : Nat} {v : Int} (k : byteBut l s i = .ok (v, j)) : byteBut l u (i + o) = .ok (v, j + o) := by
  have hz := h.size
  have e : i + o + 1 = i + 1 + o := by omega
  unfold byteBut at k ⊢
  by_cases c1 : isAt s i 92 = true
  · rw [if_pos c1] at k
    rw [if_pos (h.is c1), e]; exact escape_sit h k
  · rw [if_neg c1] at k
    by_cases c2 : i < s.size ∧ (if l = true then listSign (byteAt s i) else sign (byteAt s i)) = false
    · rw [if_pos c2] at k
      rw [h.lt c2.1, if_neg c1, h.byte i c2.1, if_pos ⟨by omega, c2.2⟩]
      cases k; rw [e]
    · rw [if_neg c2] at k; cases k
theorem digits_sit {s u : ByteArray} {o : Nat} (h : Sits s u o) {i : Nat} (hi : i < s.size) : digits u (i + o) = ((digits s i).1, (digits s i).2 + o) := by
  unfold digits
  rw [h.byte i hi, show i + o + 1 = i + 1 + o by omega, h.dig (by omega : i + 1 ≤ s.size)]
  split
  · rename_i q
    have hd := q.2
    simp [digitAt] at hd
    rw [h.byte (i + 1) hd.1.1]
    show (_, _) = (_, _)
    rw [show i + o + 2 = i + 2 + o by omega]
  · rfl
theorem digitAt_lt {s : ByteArray} {i : Nat} (h : digitAt s i = true) : i < s.size := by simp [digitAt] at h; exact h.1.1
theorem number_sit {s u : ByteArray} {o : Nat} (h : Sits s u o) {m : Int} {i j : Nat} {v : Int} (k : number m s i = .ok (v, j)) : number m u (i + o) = .ok (v, j + o) := by
  unfold number at k ⊢
  by_cases c1 : digitAt s i = true
  · have hi := digitAt_lt c1
    rw [if_pos c1] at k
    rw [h.dig (by omega), if_pos c1, digits_sit h hi]
    by_cases c2 : (digits s i).1 > 20 ∨ (digits s i).1 < m
    · rw [if_pos c2] at k; cases k
    · rw [if_neg c2] at k ⊢
      injection k with k
      rw [k]
  · rw [if_neg c1] at k; cases k
theorem number_end {s : ByteArray} {m : Int} {i j : Nat} {v : Int} (k : number m s i = .ok (v, j)) : j ≤ s.size := by
  unfold number at k
  split at k
  · rename_i c1
    split at k
    · cases k
    · injection k with k
      unfold digits at k
      have hi := digitAt_lt c1
      split at k
      · rename_i q; have := digitAt_lt q.2; cases k; omega
      · cases k; omega
  · cases k
theorem bounds_sit {s u : ByteArray} {o : Nat} (h : Sits s u o) {i j : Nat} {m n : Int} (k : bounds s i = .ok (m, n, j)) : bounds u (i + o) = .ok (m, n, j + o) := by
  unfold bounds at k ⊢
  cases h1 : number 0 s i with
  | error f => simp [h1] at k
  | ok v =>
    obtain ⟨m', j'⟩ := v
    have hj := number_end h1
    rw [number_sit h h1]
    simp only [h1] at k
    simp only
    rw [h.iff hj (by omega)]
    by_cases c1 : isAt s j' 44 = true
    · rw [if_pos c1] at k ⊢
      have hj2 := isAt_lt c1
      rw [show j' + o + 1 = j' + 1 + o by omega, h.dig (by omega : j' + 1 ≤ s.size)]
      by_cases c2 : digitAt s (j' + 1) = true
      · rw [if_pos c2] at k ⊢
        cases h2 : number m' s (j' + 1) with
        | error f => simp [h2] at k
        | ok v =>
          obtain ⟨n', k'⟩ := v
          rw [number_sit h h2]
          simp only [h2] at k
          simp only
          cases h3 : need 125 s k' with
          | error f => simp [h3] at k
          | ok l => rw [need_sit h h3]; simp [h3] at k; obtain ⟨rfl, rfl, rfl⟩ := k; rfl
      · rw [if_neg c2] at k ⊢
        cases h3 : need 125 s (j' + 1) with
        | error f => simp [h3] at k
        | ok l => rw [need_sit h h3]; simp [h3] at k; obtain ⟨rfl, rfl, rfl⟩ := k; rfl
    · rw [if_neg c1] at k ⊢
      cases h3 : need 125 s j' with
      | error f => simp [h3] at k
      | ok l => rw [need_sit h h3]; simp [h3] at k; obtain ⟨rfl, rfl, rfl⟩ := k; rfl
theorem count_sit {s u : ByteArray} {o : Nat} (h : Sits s u o) {i j : Nat} {m n : Int} (hi : i ≤ s.size) (k : count s i = .ok (m, n, j)) : count u (i + o) = .ok (m, n, j + o) := by
  unfold count at k ⊢
  have e : i + o + 1 = i + 1 + o := by omega
  rw [h.iff hi (by omega), h.iff hi (by omega), h.iff hi (by omega), h.iff hi (by omega), e]
  by_cases c1 : isAt s i 42 = true
  · rw [if_pos c1] at k ⊢; cases k; rfl
  rw [if_neg c1] at k ⊢
  by_cases c2 : isAt s i 43 = true
  · rw [if_pos c2] at k ⊢; cases k; rfl
  rw [if_neg c2] at k ⊢
  by_cases c3 : isAt s i 63 = true
  · rw [if_pos c3] at k ⊢; cases k; rfl
  rw [if_neg c3] at k ⊢
  by_cases c4 : isAt s i 123 = true
  · rw [if_pos c4] at k ⊢; exact bounds_sit h k
  rw [if_neg c4] at k ⊢; cases k; rfl
theorem item_sit {s u : ByteArray} {o : Nat} (h : Sits s u o) {i j : Nat} {a b : Int} (k : item s i = .ok (a, b, j)) : item u (i + o) = .ok (a, b, j + o) := by
  unfold item at k ⊢
  cases h1 : byteBut true s i with
  | error f => simp [h1] at k
  | ok v =>
    obtain ⟨a', j'⟩ := v
    have hj := byteBut_in h1
    rw [byteBut_sit h h1]
    simp only [h1] at k
    simp only
    rw [h.iff (by omega : j' ≤ s.size) (by omega), show j' + o + 1 = j' + 1 + o by omega]
    by_cases c1 : isAt s j' 45 = true
    · rw [if_pos c1] at k ⊢
      cases h2 : byteBut true s (j' + 1) with
      | error f => simp [h2] at k
      | ok v =>
        obtain ⟨b', k'⟩ := v
        rw [byteBut_sit h h2]
        simp only [h2] at k
        simp only
        by_cases c2 : b' < a'
        · rw [if_pos c2] at k; cases k
        · rw [if_neg c2] at k ⊢; cases k; rfl
    · rw [if_neg c1] at k ⊢; cases k; rfl
theorem items_sit {s u : ByteArray} {o : Nat} (h : Sits s u o) : ∀ {n m : Nat} {set : Nat → Bool} {i : Nat} {set' : Nat → Bool} {j : Nat}, n ≤ m → items s n set i = .ok (set', j) → items u m set (i + o) = .ok (set', j + o)
  | 0, _, _, _, _, _, _, k => by cases k
  | n + 1, 0, _, _, _, _, hm, k => by omega
  | n + 1, m + 1, set, i, set', j, hm, k => by
    unfold items at k ⊢
    cases h1 : item s i with
    | error f => simp [h1] at k
    | ok v =>
      obtain ⟨a, b, l⟩ := v
      rw [item_sit h h1]
      simp only [h1] at k
      simp only
      by_cases c1 : isAt s l 93 = true
      · rw [if_pos c1] at k; cases k
        rw [if_pos (h.is c1), show l + o + 1 = l + 1 + o by omega]
      · rw [if_neg c1] at k
        have hl : l ≤ s.size := by
          have := item_in h1; omega
        rw [h.iff hl (by omega), if_neg c1]
        exact items_sit h (by omega) k
theorem list_sit {s u : ByteArray} {o : Nat} (h : Sits s u o) {i j : Nat} {t : Tr} (hi : i ≤ s.size) (k : list s i = .ok (t, j)) : list u (i + o) = .ok (t, j + o) := by
  have hz := h.size
  unfold list at k ⊢
  simp only [] at k ⊢
  rw [h.iff hi (by omega)]
  have e : (if isAt s i 94 = true then i + o + 1 else i + o) = (if isAt s i 94 = true then i + 1 else i) + o := by split <;> omega
  rw [e]
  cases h1 : items s (s.size + 1) (fun _ => false) (if isAt s i 94 = true then i + 1 else i) with
  | error f => simp [h1] at k
  | ok v =>
    obtain ⟨set, l⟩ := v
    rw [items_sit h (by omega : s.size + 1 ≤ u.size + 1) h1]
    simp only [h1] at k
    cases k; rfl
end Sp
end Go.Proofs.YtcpfpnjkfahjcaaGreat

/- A pattern that stands within another one, ahead of a bracket, is read as it is alone, its groups numbered further, unless a limit is passed (its trees): no program is named here. -/
set_option linter.unusedSimpArgs false
set_option linter.unusedVariables false
namespace Go.Proofs.YtcpfpnjkfahjcaaGreat
namespace Sp

/-- Groups that are told are numbered further by n. -/
def renL (n : Nat) (a : Lab) : Lab := { a with num := if a.num = 0 then 0 else a.num + n }
def ren (n : Nat) : List Tr → List Tr
  | [] => []
  | ⟨a, ks⟩ :: r => ⟨renL n a, ren n ks⟩ :: ren n r
def renT (n : Nat) (t : Tr) : Tr := ⟨renL n t.lab, ren n t.kids⟩
theorem ren_nil (n : Nat) : ren n [] = [] := by rw [ren]
theorem ren_cons (n : Nat) (t : Tr) (r : List Tr) : ren n (t :: r) = renT n t :: ren n r := by obtain ⟨a, ks⟩ := t; rw [ren]; rfl
theorem ren_append (n : Nat) : ∀ (l m : List Tr), ren n (l ++ m) = ren n l ++ ren n m
  | [], m => by rw [ren_nil]; rfl
  | t :: r, m => by show ren n (t :: (r ++ m)) = _; rw [ren_cons, ren_cons, ren_append n r m]; rfl
theorem ren_one (n : Nat) (t : Tr) : ren n [t] = [renT n t] := by rw [ren_cons, ren_nil]
theorem renL_plain (n : Nat) {a : Lab} (h : a.num = 0) : renL n a = a := by
  obtain ⟨k, b, s, no, to, nu, mi, ma⟩ := a
  simp at h; subst h; rfl

def Lim {α : Type} (r : Res α) : Prop := ∃ e a, r = .error (e, a) ∧ (e = 5 ∨ e = 6)
theorem Lim.mk {α : Type} {e a : Int} (h : e = 5 ∨ e = 6) : Lim (.error (e, a) : Res α) := ⟨e, a, rfl, h⟩
/-- What g reads further on is what f reads. -/
def SitF (s : ByteArray) (o n : Nat) (f g : At → Res (Tr × At)) : Prop := ∀ x t y, x.i ≤ s.size → 0 ≤ x.t → x.t ≤ 9 → f x = .ok (t, y) → Lim (g ⟨x.i + o, x.t + n⟩) ∨ g ⟨x.i + o, x.t + n⟩ = .ok (renT n t, ⟨y.i + o, y.t + n⟩)

theorem head_sit {s u : ByteArray} {o n : Nat} (h : Sits s u o) {d : Nat} {x : At} {k : Nat} {y : At} (hi : x.i < s.size) (h0 : 0 ≤ x.t) (q : head s d x = .ok (k, y)) :
    Lim (head u (d + 1) ⟨x.i + o, x.t + n⟩) ∨ head u (d + 1) ⟨x.i + o, x.t + n⟩ = .ok ((if k = 0 then 0 else k + n), ⟨y.i + o, y.t + n⟩) := by
  unfold head at q ⊢
  simp only
  by_cases c0 : 8 ≤ d + 1
  · rw [if_pos c0]; exact Or.inl (Lim.mk (Or.inl rfl))
  rw [if_neg c0]
  rw [if_neg (by omega)] at q
  rw [show x.i + o + 1 = x.i + 1 + o by omega, show x.i + o + 2 = x.i + 2 + o by omega, h.iff (by omega : x.i + 1 ≤ s.size) (by omega)]
  by_cases c1 : isAt s (x.i + 1) 63 = true
  · rw [if_pos c1] at q ⊢
    cases h1 : need 58 s (x.i + 2) with
    | error f => simp [h1] at q
    | ok j =>
      rw [need_sit h h1]
      simp [h1] at q; obtain ⟨rfl, rfl⟩ := q
      exact Or.inr rfl
  · rw [if_neg c1] at q ⊢
    by_cases c2 : 9 ≤ x.t
    · rw [if_pos c2] at q; cases q
    rw [if_neg c2] at q
    cases q
    by_cases c3 : 9 ≤ x.t + n
    · rw [if_pos c3]; exact Or.inl (Lim.mk (Or.inr rfl))
    · rw [if_neg c3]
      right
      rw [if_neg (by omega)]
      congr 2
      · omega
      · congr 1
        show x.t + n + 1 = x.t + 1 + n
        omega
theorem group_sit {s u : ByteArray} {o n : Nat} (h : Sits s u o) {d : Nat} {f g : At → Res (Tr × At)} (hg : Good s f) (hs : SitF s o n f g) {x : At} {t : Tr} {y : At} (hi : x.i < s.size) (h0 : 0 ≤ x.t) (h9 : x.t ≤ 9) (q : group f s d x = .ok (t, y)) :
    Lim (group g u (d + 1) ⟨x.i + o, x.t + n⟩) ∨ group g u (d + 1) ⟨x.i + o, x.t + n⟩ = .ok (renT n t, ⟨y.i + o, y.t + n⟩) := by
  unfold group at q ⊢
  cases hh : head s d x with
  | error e => rw [hh] at q; cases q
  | ok v =>
    obtain ⟨k, z⟩ := v
    rw [hh] at q
    simp only at q
    have a := head_ok hh hi h0 h9
    rcases head_sit (n := n) h hi h0 hh with ⟨e, p, e1, e2⟩ | e1
    · rw [e1]; exact Or.inl (Lim.mk e2)
    rw [e1]
    simp only
    cases hb : f z with
    | error e => simp [hb] at q
    | ok v =>
      obtain ⟨t', w⟩ := v
      rcases hs z t' w a.2.1 a.2.2.1 a.2.2.2 hb with ⟨e, p, e2, e3⟩ | e2
      · rw [e2]; exact Or.inl (Lim.mk e3)
      rw [e2]
      simp only
      cases hn : need 41 s w.i with
      | error e => simp [hb, hn] at q
      | ok j =>
        rw [need_sit h hn]
        simp only [hb, hn] at q
        cases q
        right
        unfold renT
        rw [ren_one]
        simp only [renL]
        congr 3
        by_cases hk : k = 0 <;> simp [hk, blank]
theorem atom_sit {s u : ByteArray} {o n : Nat} (h : Sits s u o) {d : Nat} {f g : At → Res (Tr × At)} (hg : Good s f) (hs : SitF s o n f g) {x : At} {t : Tr} {y : At} (hi : x.i < s.size) (h0 : 0 ≤ x.t) (h9 : x.t ≤ 9) (q : atom f s d x = .ok (t, y)) :
    Lim (atom g u (d + 1) ⟨x.i + o, x.t + n⟩) ∨ atom g u (d + 1) ⟨x.i + o, x.t + n⟩ = .ok (renT n t, ⟨y.i + o, y.t + n⟩) := by
  unfold atom at q ⊢
  simp only
  rw [h.lt hi, h.lt hi, h.lt hi]
  by_cases c1 : isAt s x.i 40 = true
  · rw [if_pos c1] at q ⊢
    exact group_sit h hg hs hi h0 h9 q
  rw [if_neg c1] at q ⊢
  by_cases c2 : isAt s x.i 91 = true
  · rw [if_pos c2] at q ⊢
    cases h1 : list s (x.i + 1) with
    | error f => simp [h1] at q
    | ok v =>
      obtain ⟨t', j⟩ := v
      simp [h1] at q; obtain ⟨rfl, rfl⟩ := q
      rw [show x.i + o + 1 = x.i + 1 + o by omega, list_sit h (by omega) h1]
      right
      simp only
      congr 2
      unfold list at h1
      simp only [] at h1
      cases h2 : items s (s.size + 1) (fun _ => false) (if isAt s (x.i + 1) 94 = true then x.i + 1 + 1 else x.i + 1) with
      | error f => simp [h2] at h1
      | ok v => obtain ⟨set, l⟩ := v; simp only [h2] at h1; cases h1; unfold renT; rw [ren_nil]; rfl
  rw [if_neg c2] at q ⊢
  by_cases c3 : isAt s x.i 46 = true
  · rw [if_pos c3] at q ⊢; cases q
    right
    unfold renT; rw [ren_nil, show x.i + o + 1 = x.i + 1 + o by omega]; rfl
  rw [if_neg c3] at q ⊢
  cases h1 : byteBut false s x.i with
  | error f => simp [h1] at q
  | ok v =>
    obtain ⟨b, j⟩ := v
    simp [h1] at q; obtain ⟨rfl, rfl⟩ := q
    rw [byteBut_sit h h1]
    right
    unfold renT; rw [ren_nil]; rfl
theorem part_sit {s u : ByteArray} {o n : Nat} (h : Sits s u o) {d : Nat} {f g : At → Res (Tr × At)} (hg : Good s f) (hs : SitF s o n f g) {x : At} {t : Tr} {y : At} (hi : x.i < s.size) (h0 : 0 ≤ x.t) (h9 : x.t ≤ 9) (q : part f s d x = .ok (t, y)) :
    Lim (part g u (d + 1) ⟨x.i + o, x.t + n⟩) ∨ part g u (d + 1) ⟨x.i + o, x.t + n⟩ = .ok (renT n t, ⟨y.i + o, y.t + n⟩) := by
  unfold part at q ⊢
  cases h1 : atom f s d x with
  | error e => simp [h1] at q
  | ok v =>
    obtain ⟨t', z⟩ := v
    have a := atom_good hg h1 h0 h9
    rcases atom_sit (n := n) h hg hs hi h0 h9 h1 with ⟨e, p, e1, e2⟩ | e1
    · rw [e1]; exact Or.inl (Lim.mk e2)
    rw [e1]
    simp only
    cases h2 : count s z.i with
    | error f => simp [h1, h2] at q
    | ok v =>
      obtain ⟨m, k, j⟩ := v
      rw [count_sit h (by omega) h2]
      simp [h1, h2] at q; obtain ⟨rfl, rfl⟩ := q
      exact Or.inr rfl
theorem over_sit {s u : ByteArray} {o : Nat} (h : Sits s u o) {i : Nat} (hi : i ≤ s.size) : over u (i + o) = over s i := by
  have hz := h.size
  unfold over
  rcases Nat.lt_or_eq_of_le hi with q | q
  · rw [h.lt q, h.lt q]
    have e1 : decide (u.size ≤ i + o) = false := by simp; omega
    have e2 : decide (s.size ≤ i) = false := by simp; omega
    rw [e1, e2]
  · subst q
    have e2 : decide (s.size ≤ s.size) = true := by simp
    have e3 : isAt u (s.size + o) 41 = true := by simp [isAt, h.last]; omega
    rw [e2, e3]; simp
theorem parts_sit {s u : ByteArray} {o n : Nat} (h : Sits s u o) {d : Nat} {f g : At → Res (Tr × At)} (hg : Good s f) (hs : SitF s o n f g) : ∀ {k m : Nat} {l : List Tr} {x : At} {l' : List Tr} {y : At}, k ≤ m → x.i ≤ s.size → 0 ≤ x.t → x.t ≤ 9 → parts f s d k l x = .ok (l', y) →
    Lim (parts g u (d + 1) m (ren n l) ⟨x.i + o, x.t + n⟩) ∨ parts g u (d + 1) m (ren n l) ⟨x.i + o, x.t + n⟩ = .ok (ren n l', ⟨y.i + o, y.t + n⟩)
  | 0, _, _, _, _, _, _, _, _, _, q => by cases q
  | k + 1, 0, _, _, _, _, hm, _, _, _, _ => by omega
  | k + 1, m + 1, l, x, l', y, hm, hi, h0, h9, q => by
    unfold parts at q ⊢
    simp only
    rw [over_sit h hi]
    by_cases c1 : over s x.i = true
    · rw [if_pos c1] at q ⊢; cases q; exact Or.inr rfl
    rw [if_neg c1] at q ⊢
    have hlt : x.i < s.size := by
      rcases Nat.lt_or_eq_of_le hi with r | r
      · exact r
      · exact absurd (by unfold over; simp [r]) c1
    cases h1 : part f s d x with
    | error e => simp [h1] at q
    | ok v =>
      obtain ⟨t', z⟩ := v
      have a := part_good hg h1 h0 h9
      simp only [h1] at q
      rcases part_sit (n := n) h hg hs hlt h0 h9 h1 with ⟨e, p, e1, e2⟩ | e1
      · rw [e1]; exact Or.inl (Lim.mk e2)
      rw [e1]
      simp only
      have r := parts_sit h hg hs (by omega : k ≤ m) a.2.1 a.2.2.1 a.2.2.2 q
      rw [ren_append, ren_one] at r
      exact r
theorem row_sit {s u : ByteArray} {o n : Nat} (h : Sits s u o) {d : Nat} {f g : At → Res (Tr × At)} (hg : Good s f) (hs : SitF s o n f g) : SitF s o n (row f s d) (row g u (d + 1)) := by
  intro x t y hi h0 h9 q
  have hz := h.size
  unfold row at q ⊢
  cases h1 : parts f s d (s.size + 1) [] x with
  | error e => simp [h1] at q
  | ok v =>
    obtain ⟨l, z⟩ := v
    simp [h1] at q; obtain ⟨rfl, rfl⟩ := q
    have r := parts_sit (n := n) h hg hs (by omega : s.size + 1 ≤ u.size + 1) hi h0 h9 h1
    rw [ren_nil] at r
    rcases r with ⟨e, p, e1, e2⟩ | e1
    · rw [e1]; exact Or.inl (Lim.mk e2)
    · rw [e1]; exact Or.inr rfl
theorem rows_sit {s u : ByteArray} {o n : Nat} (h : Sits s u o) {d : Nat} {f g : At → Res (Tr × At)} (hg : Good s f) (hs : SitF s o n f g) : ∀ {k m : Nat} {l : List Tr} {x : At} {l' : List Tr} {y : At}, k ≤ m → x.i ≤ s.size → 0 ≤ x.t → x.t ≤ 9 → rows f s d k l x = .ok (l', y) →
    Lim (rows g u (d + 1) m (ren n l) ⟨x.i + o, x.t + n⟩) ∨ rows g u (d + 1) m (ren n l) ⟨x.i + o, x.t + n⟩ = .ok (ren n l', ⟨y.i + o, y.t + n⟩)
  | 0, _, _, _, _, _, _, _, _, _, q => by cases q
  | k + 1, 0, _, _, _, _, hm, _, _, _, _ => by omega
  | k + 1, m + 1, l, x, l', y, hm, hi, h0, h9, q => by
    unfold rows at q ⊢
    cases h1 : row f s d x with
    | error e => simp [h1] at q
    | ok v =>
      obtain ⟨t', z⟩ := v
      have a := row_good hg x t' z h1 hi h0 h9
      simp only [h1] at q
      rcases row_sit (n := n) h hg hs x t' z hi h0 h9 h1 with ⟨e, p, e1, e2⟩ | e1
      · rw [e1]; exact Or.inl (Lim.mk e2)
      rw [e1]
      simp only
      rw [h.iff a.2.1 (by omega)]
      by_cases c1 : isAt s z.i 124 = true
      · rw [if_pos c1] at q ⊢
        have hz := isAt_lt c1
        have r := rows_sit (n := n) (x := ⟨z.i + 1, z.t⟩) h hg hs (by omega : k ≤ m) (by show z.i + 1 ≤ s.size; omega) a.2.2.1 a.2.2.2 q
        rw [ren_append, ren_one] at r
        rw [show z.i + o + 1 = z.i + 1 + o by omega]
        exact r
      · rw [if_neg c1] at q ⊢
        cases q
        rw [ren_append, ren_one]
        exact Or.inr rfl
theorem choice_sit {s u : ByteArray} {o n : Nat} (h : Sits s u o) : ∀ k, k ≤ 8 → SitF s o n (choice s (k + 1)) (choice u k)
  | 0, _ => by intro x t y hi h0 h9 q; exact Or.inl (Lim.mk (Or.inl rfl))
  | k + 1, hk => by
    intro x t y hi h0 h9 q
    have hz := h.size
    unfold choice at q ⊢
    cases h1 : rows (choice s (k + 1)) s (8 - (k + 1)) (s.size + 1) [] x with
    | error e => rw [h1] at q; cases q
    | ok v =>
      obtain ⟨l, z⟩ := v
      rw [h1] at q; simp only at q; cases q
      have r := rows_sit (n := n) h (choice_good s (k + 1)) (choice_sit h k (by omega)) (by omega : s.size + 1 ≤ u.size + 1) hi h0 h9 h1
      rw [ren_nil, show 8 - (k + 1) + 1 = 8 - k by omega] at r
      rcases r with ⟨e, p, e1, e2⟩ | e1
      · rw [e1]; exact Or.inl (Lim.mk e2)
      · rw [e1]; exact Or.inr rfl

/-- What reading a whole pattern says. -/
theorem read_choice {s : ByteArray} {t : Tr} {n : Int} (h : read s = .ok (t, n)) : s.size ≤ 200 ∧ choice s 9 ⟨0, 0⟩ = .ok (t, ⟨s.size, n⟩) ∧ 0 ≤ n ∧ n ≤ 9 := by
  unfold read at h
  split at h
  · cases h
  · rename_i hl
    cases h1 : choice s 9 ⟨0, 0⟩ with
    | error f => simp [h1] at h
    | ok v =>
      obtain ⟨t', y⟩ := v
      have g := choice_good s 9 _ _ _ h1 (by simp) (by simp) (by simp)
      simp only [h1] at h
      split at h
      · cases h
      · split at h
        · cases h
        · rename_i q _
          cases h
          obtain ⟨yi, yt⟩ := y
          have : yi = s.size := by simp at q g; omega
          subst this
          exact ⟨by omega, rfl, g.2.2.1, g.2.2.2⟩
/-- The node of a group that is not told. -/
def quietG (t : Tr) (m n : Int) : Tr := ⟨{ blank with kind := 3, min := m, max := n }, [t]⟩
/-- A pattern in a group that is not told, as an atom. -/
theorem quiet_sit {s u : ByteArray} {o n : Nat} {t : Tr} {k : Int} (h : Sits s u (o + 3)) (h1 : byteAt u o = 40) (h2 : byteAt u (o + 1) = 63) (h3 : byteAt u (o + 2) = 58) (hr : read s = .ok (t, k)) :
    Lim (atom (choice u 8) u 0 ⟨o, n⟩) ∨ atom (choice u 8) u 0 ⟨o, n⟩ = .ok (quietG (renT n t) (-1) 0, ⟨s.size + o + 4, k + n⟩) := by
  obtain ⟨hl, hc, hk0, hk9⟩ := read_choice hr
  have hz := h.size
  have i1 : isAt u o 40 = true := by simp [isAt, h1]; omega
  have i2 : isAt u (o + 1) 63 = true := by simp [isAt, h2]; omega
  have i3 : isAt u (o + 2) 58 = true := by simp [isAt, h3]; omega
  have i4 : isAt u (s.size + (o + 3)) 41 = true := by simp [isAt, h.last]; omega
  unfold atom
  simp only
  rw [if_pos i1]
  unfold group head need
  simp only
  rw [if_neg (by omega), if_pos i2, if_pos i3]
  simp only
  rcases choice_sit (n := n) h 8 (by omega) ⟨0, 0⟩ t ⟨s.size, k⟩ (by simp) (by simp) (by simp) hc with ⟨e, p, e1, e2⟩ | e1
  · simp only [Nat.zero_add, Int.zero_add] at e1
    rw [e1]; exact Or.inl (Lim.mk e2)
  · simp only [Nat.zero_add, Int.zero_add] at e1
    rw [e1]
    simp only
    rw [if_pos i4]
    right
    simp only
    congr 2
end Sp
end Go.Proofs.YtcpfpnjkfahjcaaGreat
