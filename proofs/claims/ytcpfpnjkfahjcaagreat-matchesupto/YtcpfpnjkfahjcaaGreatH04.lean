import Derived.Test.YtcpfpnjkfahjcaaGreatH03
import Derived.Test.YtcpfpnjkfahjcaaGreatH01
/- What patterns that are put together of whole ones match: no program is named here. -/
set_option linter.unusedSimpArgs false
set_option linter.unusedVariables false
namespace Go.Proofs.YtcpfpnjkfahjcaaGreat
namespace Sp

/-! Groups numbered further. -/
structure AgreeR (f : Gr → Gr) (x y : Sem) : Prop where
  m : ∀ i j, y.m i j = x.m i j
  g : ∀ i j, y.g i j = (x.g i j).map f
def AgreesR (f : Gr → Gr) : List Sem → List Sem → Prop
  | [], [] => True
  | x :: l, y :: m => AgreeR f x y ∧ AgreesR f l m
  | [], _ :: _ => False
  | _ :: _, [] => False
theorem rowM_r {f : Gr → Gr} : ∀ {l m : List Sem}, AgreesR f l m → rowM m = rowM l
  | [], [], _ => rfl
  | x :: l, y :: m, h => by
    funext i j
    rw [rowM, rowM, rowM_r h.2]
    exact cutB_congr fun k _ _ => by rw [h.1.m]
theorem rowG_r {f : Gr → Gr} : ∀ {l m : List Sem}, AgreesR f l m → ∀ i j, rowG m i j = (rowG l i j).map f
  | [], [], _, i, j => rfl
  | x :: l, y :: m, h, i, j => by
    rw [rowG, rowG, rowM_r h.2]
    rw [show greatest (fun k => y.m i k && rowM l k j) i j = greatest (fun k => x.m i k && rowM l k j) i j from greatest_congr fun k _ _ => by rw [h.1.m]]
    cases hg : greatest (fun k => x.m i k && rowM l k j) i j with
    | none => rfl
    | some k => simp only; rw [h.1.g, rowG_r h.2, List.map_append]
theorem choiceM_r {f : Gr → Gr} : ∀ {l m : List Sem}, AgreesR f l m → ∀ i j, choiceM m i j = choiceM l i j
  | [], [], _, i, j => rfl
  | x :: l, y :: m, h, i, j => by
    have := choiceM_r h.2 i j
    unfold choiceM at *
    rw [List.any_cons, List.any_cons, h.1.m i j, this]
theorem choiceG_r {f : Gr → Gr} : ∀ {l m : List Sem}, AgreesR f l m → ∀ i j, choiceG m i j = (choiceG l i j).map f
  | [], [], _, i, j => rfl
  | x :: l, y :: m, h, i, j => by
    rw [choiceG, choiceG, h.1.m i j]
    split
    · exact h.1.g i j
    · exact choiceG_r h.2 i j
theorem turnsM_r {f : Gr → Gr} {x y : Sem} (h : AgreeR f x y) : ∀ (k m : Nat) (n : Option Nat) (i j : Nat), turnsM y k m n i j = turnsM x k m n i j
  | 0, _, _, _, _ => rfl
  | k + 1, m + 1, n, i, j => by
    rw [turnsM, turnsM]
    exact cutB_congr fun c _ _ => by rw [h.m, turnsM_r h k m]
  | k + 1, 0, n, i, j => by
    rw [turnsM, turnsM, cutB_congr (p' := x.m) (q' := turnsM x k 0 (n.map (· - 1))) fun c _ _ => by rw [h.m, turnsM_r h k 0]]
theorem turnsG_r {f : Gr → Gr} {x y : Sem} (h : AgreeR f x y) : ∀ (k m : Nat) (n : Option Nat) (i j : Nat), turnsG y k m n i j = (turnsG x k m n i j).map f
  | 0, _, _, _, _ => rfl
  | k + 1, m + 1, n, i, j => by
    rw [turnsG, turnsG]
    rw [show greatest (fun c => y.m i c && turnsM y k m (n.map (· - 1)) c j) i j = greatest (fun c => x.m i c && turnsM x k m (n.map (· - 1)) c j) i j from greatest_congr fun c _ _ => by rw [h.m, turnsM_r h]]
    cases hg : greatest (fun c => x.m i c && turnsM x k m (n.map (· - 1)) c j) i j with
    | none => rfl
    | some c => simp only; rw [h.g, turnsG_r h k m, List.map_append]
  | k + 1, 0, n, i, j => by
    rw [turnsG, turnsG]
    split
    · rfl
    · rw [show greatest (fun c => y.m i c && turnsM y k 0 (n.map (· - 1)) c j) (i + 1) j = greatest (fun c => x.m i c && turnsM x k 0 (n.map (· - 1)) c j) (i + 1) j from greatest_congr fun c _ _ => by rw [h.m, turnsM_r h]]
      cases hg : greatest (fun c => x.m i c && turnsM x k 0 (n.map (· - 1)) c j) (i + 1) j with
      | none => rfl
      | some c => simp only; rw [h.g, turnsG_r h k 0, List.map_append]
theorem node_r {n : Nat} (s : ByteArray) {a : Lab} (ha : a.told = decide (a.num ≠ 0)) {l m : List Sem} (h : AgreesR (rn n) l m) : AgreeR (rn n) (node s a l) (node s (renL n a) m) := by
  have hb : AgreeR (rn n) (bareSem s a l) (bareSem s (renL n a) m) := by
    unfold bareSem
    show AgreeR (rn n) _ (if a.kind ≤ 2 then _ else if a.kind = 3 then _ else if a.kind = 4 then _ else _)
    split
    · exact ⟨fun i j => rfl, fun i j => rfl⟩
    · split
      · refine ⟨fun i j => choiceM_r h i j, fun i j => ?_⟩
        show (if a.told then [((renL n a).num, i, j)] else []) ++ choiceG m i j = _
        rw [choiceG_r h i j, List.map_append]
        congr 1
        cases ht : a.told with
        | false => rfl
        | true =>
          rw [ht] at ha
          have h0 : a.num ≠ 0 := of_decide_eq_true ha.symm
          show [((if a.num = 0 then 0 else a.num + n), i, j)] = [rn n (a.num, i, j)]
          rw [if_neg h0]; rfl
      · split
        · exact ⟨fun i j => choiceM_r h i j, fun i j => choiceG_r h i j⟩
        · exact ⟨fun i j => by show rowM m i j = rowM l i j; rw [rowM_r h], fun i j => rowG_r h i j⟩
  unfold node
  show AgreeR (rn n) _ (if a.min < 0 then _ else _)
  split
  · exact hb
  · exact ⟨fun i j => turnsM_r hb _ _ _ i j, fun i j => turnsG_r hb _ _ _ i j⟩
theorem sems_r {n : Nat} (s : ByteArray) : ∀ (l : List Tr), Can l → AgreesR (rn n) (sems s l) (sems s (ren n l))
  | [], _ => by rw [ren_nil, sems_nil]; trivial
  | ⟨a, ks⟩ :: r, h => by
    rw [Can] at h
    rw [ren, sems, sems]
    exact ⟨node_r s h.1.1.told (sems_r s ks h.2.1), sems_r s r h.2.2⟩
theorem sem_r {n : Nat} (s : ByteArray) {t : Tr} (h : Can [t]) : AgreeR (rn n) (sem s t) (sem s (renT n t)) := by
  have := sems_r (n := n) s [t] h
  rw [ren_one, sems_cons, sems_cons] at this
  exact this.1

/-! Nodes with one part. -/
theorem choice1_m (x : Sem) (i j : Nat) : choiceM [x] i j = x.m i j := by unfold choiceM; simp
theorem choice1_g (x : Sem) (i j : Nat) (h : x.m i j = true) : choiceG [x] i j = x.g i j := by rw [choiceG, if_pos h]
theorem choice2_m (x y : Sem) (i j : Nat) : choiceM [x, y] i j = (x.m i j || y.m i j) := by unfold choiceM; simp
theorem choice2_g1 (x y : Sem) (i j : Nat) (h : x.m i j = true) : choiceG [x, y] i j = x.g i j := by rw [choiceG, if_pos h]
theorem choice2_g2 (x y : Sem) (i j : Nat) (h1 : x.m i j = false) (h2 : y.m i j = true) : choiceG [x, y] i j = y.g i j := by rw [choiceG, if_neg (by rw [h1]; decide), choiceG, if_pos h2]
theorem row1_m (x : Sem) (i j : Nat) (h : x.m i j = true → i ≤ j) : rowM [x] i j = x.m i j := by
  rw [rowM, Bool.eq_iff_iff, cutB_iff]
  constructor
  · rintro ⟨k, _, h2, h3, h4⟩
    simp [rowM] at h4; subst h4; exact h3
  · intro q; exact ⟨j, h q, Nat.le_refl _, q, by simp [rowM]⟩
theorem row1_g (x : Sem) (i j : Nat) (h : x.m i j = true) (hij : i ≤ j) : rowG [x] i j = x.g i j := by
  rw [rowG, greatest_is hij (Nat.le_refl _) (by simp [rowM, h]) (fun m h1 h2 => by omega)]
  simp [rowG]
theorem row2_m (x y : Sem) (hy : ∀ i j, y.m i j = true → i ≤ j) (i j : Nat) : rowM [x, y] i j = cutB x.m y.m i i j := by
  rw [rowM]
  exact cutB_congr fun k _ _ => by rw [row1_m y k j (hy k j)]
theorem row2_g (x y : Sem) (hy : ∀ i j, y.m i j = true → i ≤ j) (i j k : Nat) (h : greatest (fun k => x.m i k && y.m k j) i j = some k) : rowG [x, y] i j = x.g i k ++ y.g k j := by
  have r := greatest_some h
  have q := r.2.2.1
  rw [Bool.and_eq_true] at q
  rw [rowG, show greatest (fun k => x.m i k && rowM [y] k j) i j = some k by rw [← h]; exact greatest_congr fun c _ _ => by rw [row1_m y c j (hy c j)]]
  simp only
  rw [row1_g y k j q.2 r.2.1]
/-- A group that is not told. -/
theorem quiet_sem (s : ByteArray) (t : Tr) : sem s (quietG t (-1) 0) = ⟨choiceM [sem s t], choiceG [sem s t]⟩ := by
  unfold sem node quietG bareSem
  simp [blank]
  rw [sems_cons, sems_nil]
  exact ⟨rfl, rfl⟩
theorem quiet_m (s : ByteArray) (t : Tr) (i j : Nat) : (sem s (quietG t (-1) 0)).m i j = (sem s t).m i j := by rw [quiet_sem]; exact choice1_m _ i j
theorem quiet_g (s : ByteArray) (t : Tr) (i j : Nat) (h : (sem s t).m i j = true) : (sem s (quietG t (-1) 0)).g i j = (sem s t).g i j := by rw [quiet_sem]; exact choice1_g _ i j h
def rowT (l : List Tr) : Tr := ⟨{ blank with kind := 5 }, l⟩
def choiceT (l : List Tr) : Tr := ⟨{ blank with kind := 4 }, l⟩
theorem rowT_sem (s : ByteArray) (l : List Tr) : sem s (rowT l) = ⟨rowM (sems s l), rowG (sems s l)⟩ := by
  unfold sem node rowT bareSem; simp [blank]
theorem choiceT_sem (s : ByteArray) (l : List Tr) : sem s (choiceT l) = ⟨choiceM (sems s l), choiceG (sems s l)⟩ := by
  unfold sem node choiceT bareSem; simp [blank]
theorem rowT1_m (s : ByteArray) (t : Tr) (i j : Nat) : (sem s (rowT [t])).m i j = (sem s t).m i j := by
  rw [rowT_sem, sems_cons, sems_nil]; exact row1_m _ i j (sem_le s t i j)
theorem rowT1_g (s : ByteArray) (t : Tr) (i j : Nat) (h : (sem s t).m i j = true) : (sem s (rowT [t])).g i j = (sem s t).g i j := by
  rw [rowT_sem, sems_cons, sems_nil]; exact row1_g _ i j h (sem_le s t i j h)

/-! The three. -/
def chosenT (a b : Tr) : Tr := choiceT [rowT [quietG a (-1) 0], rowT [quietG b (-1) 0]]
def joinedT (a b : Tr) : Tr := choiceT [rowT [quietG a (-1) 0, quietG b (-1) 0]]
def turnedT (a : Tr) : Tr := choiceT [rowT [quietG a 0 (-1)]]
theorem chosen_m (s : ByteArray) (a b : Tr) (i j : Nat) : (sem s (chosenT a b)).m i j = ((sem s a).m i j || (sem s b).m i j) := by
  unfold chosenT
  rw [choiceT_sem, sems_cons, sems_cons, sems_nil]
  show choiceM _ i j = _
  rw [choice2_m, rowT1_m, rowT1_m, quiet_m, quiet_m]
theorem chosen_g1 (s : ByteArray) (a b : Tr) (i j : Nat) (h : (sem s a).m i j = true) : (sem s (chosenT a b)).g i j = (sem s a).g i j := by
  unfold chosenT
  rw [choiceT_sem, sems_cons, sems_cons, sems_nil]
  show choiceG _ i j = _
  rw [choice2_g1 _ _ i j (by rw [rowT1_m, quiet_m]; exact h), rowT1_g _ _ i j (by rw [quiet_m]; exact h), quiet_g _ _ i j h]
theorem chosen_g2 (s : ByteArray) (a b : Tr) (i j : Nat) (h1 : (sem s a).m i j = false) (h : (sem s b).m i j = true) : (sem s (chosenT a b)).g i j = (sem s b).g i j := by
  unfold chosenT
  rw [choiceT_sem, sems_cons, sems_cons, sems_nil]
  show choiceG _ i j = _
  rw [choice2_g2 _ _ i j (by rw [rowT1_m, quiet_m]; exact h1) (by rw [rowT1_m, quiet_m]; exact h), rowT1_g _ _ i j (by rw [quiet_m]; exact h), quiet_g _ _ i j h]
theorem joined_m (s : ByteArray) (a b : Tr) (i j : Nat) : (sem s (joinedT a b)).m i j = cutB (sem s a).m (sem s b).m i i j := by
  unfold joinedT
  rw [choiceT_sem, sems_cons, sems_nil]
  show choiceM _ i j = _
  rw [choice1_m, rowT_sem, sems_cons, sems_cons, sems_nil]
  show rowM _ i j = _
  rw [row2_m _ _ (sem_le s _)]
  exact cutB_congr fun k _ _ => by rw [quiet_m, quiet_m]
theorem joined_g (s : ByteArray) (a b : Tr) (i j k : Nat) (h : greatest (fun k => (sem s a).m i k && (sem s b).m k j) i j = some k) : (sem s (joinedT a b)).g i j = (sem s a).g i k ++ (sem s b).g k j := by
  have r := greatest_some h
  have q := r.2.2.1
  rw [Bool.and_eq_true] at q
  have hm : (sem s (joinedT a b)).m i j = true := by
    rw [joined_m]; exact cutB_iff.mpr ⟨k, r.1, r.2.1, q.1, q.2⟩
  unfold joinedT at hm ⊢
  rw [choiceT_sem, sems_cons, sems_nil] at hm ⊢
  have hm' : choiceM [sem s (rowT [quietG a (-1) 0, quietG b (-1) 0])] i j = true := hm
  rw [choice1_m] at hm'
  show choiceG _ i j = _
  rw [choice1_g _ i j hm', rowT_sem, sems_cons, sems_cons, sems_nil]
  show rowG _ i j = _
  rw [row2_g _ _ (sem_le s _) i j k (by rw [← h]; exact greatest_congr fun c _ _ => by rw [quiet_m, quiet_m]), quiet_g _ _ i k q.1, quiet_g _ _ k j q.2]
/-- Turns without end: the part is empty, or a first one that is not, and the same again. -/
theorem turns_sem (s : ByteArray) (t : Tr) (i j : Nat) : (sem s (quietG t 0 (-1))).m i j = turnsD (sem s (quietG t (-1) 0)) 0 none 0 i j ∧ (sem s (quietG t 0 (-1))).g i j = turnsGD (sem s (quietG t (-1) 0)) 0 none 0 i j := by
  have e : sem s (quietG t (-1) 0) = bareSem s (quietG t 0 (-1)).lab (sems s [t]) := by
    unfold sem node quietG
    rw [if_pos (by show (-1 : Int) < 0; omega)]
    rfl
  rw [e]
  unfold sem node quietG turnsD turnsGD most
  simp [blank]
theorem turned_mq (s : ByteArray) (t : Tr) (i j : Nat) : (sem s (turnedT t)).m i j = (sem s (quietG t 0 (-1))).m i j := by
  unfold turnedT
  rw [choiceT_sem, sems_cons, sems_nil]
  show choiceM _ i j = _
  rw [choice1_m, rowT1_m]
theorem turned_gq (s : ByteArray) (t : Tr) (i j : Nat) (h : (sem s (turnedT t)).m i j = true) : (sem s (turnedT t)).g i j = (sem s (quietG t 0 (-1))).g i j := by
  have h' := h
  rw [turned_mq] at h'
  unfold turnedT
  rw [choiceT_sem, sems_cons, sems_nil]
  show choiceG _ i j = _
  rw [choice1_g _ i j (by rw [rowT1_m]; exact h'), rowT1_g _ _ i j h']
theorem turned_m (s : ByteArray) (t : Tr) (i j : Nat) : (sem s (turnedT t)).m i j = (i == j || cutB (sem s t).m (sem s (turnedT t)).m (i + 1) i j) := by
  rw [turned_mq, (turns_sem s t i j).1, turnsD_more _ _ _ _ _ _ (Nat.le_refl _)]
  show (i == j || (true && _)) = _
  rw [Bool.true_and]
  congr 1
  exact cutB_congr fun k _ _ => by rw [quiet_m, turned_mq, (turns_sem s t k j).1, turnsD_endless _ _ _ _ _ (Nat.zero_le _)]
theorem turned_g0 (s : ByteArray) (t : Tr) (i : Nat) : (sem s (turnedT t)).g i i = [] := by
  rw [turned_gq s t i i (by rw [turned_m]; simp), (turns_sem s t i i).2, turnsGD_done _ _ _ _ _ (Nat.le_refl _)]
theorem turned_g (s : ByteArray) (t : Tr) (i j k : Nat) (hij : i < j) (h : greatest (fun k => (sem s t).m i k && (sem s (turnedT t)).m k j) (i + 1) j = some k) : (sem s (turnedT t)).g i j = (sem s t).g i k ++ (sem s (turnedT t)).g k j := by
  have r := greatest_some h
  have q := r.2.2.1
  rw [Bool.and_eq_true] at q
  have hm : (sem s (turnedT t)).m i j = true := by
    rw [turned_m, cutB_iff.mpr ⟨k, r.1, r.2.1, q.1, q.2⟩]; simp
  rw [turned_gq s t i j hm, (turns_sem s t i j).2, turned_gq s t k j q.2, (turns_sem s t k j).2]
  rw [turnsGD_more _ _ _ _ _ _ k (Nat.le_refl _) hij (by
    rw [← h]
    exact greatest_congr fun c _ _ => by rw [quiet_m, turned_mq, (turns_sem s t c j).1, turnsD_endless _ _ _ _ _ (Nat.zero_le _)])]
  rw [quiet_g _ _ i k q.1, turnsGD_endless _ _ _ _ _ (Nat.zero_le _)]
end Sp
end Go.Proofs.YtcpfpnjkfahjcaaGreat

/- Reading patterns that are put together of whole ones: no program is named here. -/
set_option linter.unusedSimpArgs false
set_option linter.unusedVariables false
namespace Go.Proofs.YtcpfpnjkfahjcaaGreat
namespace Sp

theorem str_size (l : List UInt8) : (str l).size = l.length := by simp [str, ByteArray.size]
theorem str_of (s : ByteArray) : str s.data.toList = s := by cases s; simp [str]
theorem byteAt_str (l : List UInt8) (i : Nat) (x : UInt8) (h : l[i]? = some x) : byteAt (str l) i = (x.toNat : Int) := by
  obtain ⟨hi, e⟩ := List.getElem?_eq_some_iff.mp h
  rw [byteAt_in _ i (by rw [str_size]; exact hi)]
  congr 2
theorem byteAt_at {l : List UInt8} (P Q : List UInt8) (x : UInt8) {i : Nat} (h : l = P ++ x :: Q) (hi : P.length = i) : byteAt (str l) i = (x.toNat : Int) := by
  subst h hi; exact byteAt_str _ _ _ (by simp)
theorem sits_mid {l : List UInt8} (P A Q : List UInt8) {o : Nat} (h : l = P ++ (A ++ 41 :: Q)) (ho : P.length = o) : Sits (str A) (str l) o := by
  subst h ho
  refine ⟨by rw [str_size, str_size]; simp; omega, fun i hi => ?_, ?_⟩
  · rw [str_size] at hi
    obtain ⟨x, hx⟩ : ∃ x, A[i]? = some x := ⟨_, List.getElem?_eq_getElem hi⟩
    rw [byteAt_str A i x hx, byteAt_str _ _ x]
    rw [List.getElem?_append_right (by omega), show i + P.length - P.length = i by omega, List.getElem?_append_left hi, hx]
  · rw [str_size]
    exact byteAt_at (P ++ A) Q 41 (by simp) (by simp <;> omega)
theorem is_at {u : ByteArray} {i : Nat} {c d : Int} (h : byteAt u i = c) (hi : i < u.size) : isAt u i d = decide (c = d) := by
  unfold isAt; rw [h]; simp [hi]
theorem is_end {u : ByteArray} {i : Nat} {d : Int} (hi : u.size ≤ i) : isAt u i d = false := by
  unfold isAt; simp; omega
theorem count_no {u : ByteArray} {i : Nat} (h1 : isAt u i 42 = false) (h2 : isAt u i 43 = false) (h3 : isAt u i 63 = false) (h4 : isAt u i 123 = false) : count u i = .ok (-1, 0, i) := by
  unfold count; simp [h1, h2, h3, h4]
theorem count_star {u : ByteArray} {i : Nat} (h1 : isAt u i 42 = true) : count u i = .ok (0, -1, i + 1) := by
  unfold count; simp [h1]
theorem over_no {u : ByteArray} {i : Nat} (h : byteAt u i = 40) (hi : i < u.size) : over u i = false := by
  unfold over; rw [is_at h hi, is_at h hi]; simp; omega
theorem over_end {u : ByteArray} {i : Nat} (hi : u.size ≤ i) : over u i = true := by unfold over; simp [hi]
theorem over_bar {u : ByteArray} {i : Nat} (h : byteAt u i = 124) (hi : i < u.size) : over u i = true := by
  unfold over; rw [is_at h hi]; simp

theorem part_q {f : At → Res (Tr × At)} {u : ByteArray} {d : Nat} {x : At} {t : Tr} {p j : Nat} {k m n : Int} (ha : atom f u d x = .ok (quietG t (-1) 0, ⟨p, k⟩)) (hc : count u p = .ok (m, n, j)) : part f u d x = .ok (quietG t m n, ⟨j, k⟩) := by
  unfold part; rw [ha]; simp only; rw [hc]; rfl
theorem part_lim {f : At → Res (Tr × At)} {u : ByteArray} {d : Nat} {x : At} (ha : Lim (atom f u d x)) : Lim (part f u d x) := by
  obtain ⟨e, a, h1, h2⟩ := ha
  unfold part; rw [h1]; exact Lim.mk h2
theorem row_q1 {f : At → Res (Tr × At)} {u : ByteArray} {d : Nat} {x y : At} {t : Tr} (h1 : over u x.i = false) (h2 : part f u d x = .ok (t, y)) (h3 : over u y.i = true) (hz : 1 ≤ u.size) : row f u d x = .ok (rowT [t], y) := by
  obtain ⟨z, hz'⟩ : ∃ z, u.size = z + 1 := ⟨u.size - 1, by omega⟩
  unfold row
  rw [hz', parts, if_neg (by rw [h1]; decide), h2]
  simp only
  rw [parts, if_pos h3]; rfl
theorem row_q2 {f : At → Res (Tr × At)} {u : ByteArray} {d : Nat} {x y z : At} {t t' : Tr} (h1 : over u x.i = false) (h2 : part f u d x = .ok (t, y)) (h3 : over u y.i = false) (h4 : part f u d y = .ok (t', z)) (h5 : over u z.i = true) (hz : 2 ≤ u.size) : row f u d x = .ok (rowT [t, t'], z) := by
  obtain ⟨k, hk⟩ : ∃ z, u.size = z + 2 := ⟨u.size - 2, by omega⟩
  unfold row
  rw [hk, parts, if_neg (by rw [h1]; decide), h2]
  simp only
  rw [parts, if_neg (by rw [h3]; decide), h4]
  simp only
  rw [parts, if_pos h5]; rfl
theorem row_l1 {f : At → Res (Tr × At)} {u : ByteArray} {d : Nat} {x : At} (h1 : over u x.i = false) (h2 : Lim (part f u d x)) : Lim (row f u d x) := by
  obtain ⟨e, a, h3, h4⟩ := h2
  unfold row; rw [parts, if_neg (by rw [h1]; decide), h3]; exact Lim.mk h4
theorem row_l2 {f : At → Res (Tr × At)} {u : ByteArray} {d : Nat} {x y : At} {t : Tr} (h1 : over u x.i = false) (h2 : part f u d x = .ok (t, y)) (h3 : over u y.i = false) (h4 : Lim (part f u d y)) (hz : 1 ≤ u.size) : Lim (row f u d x) := by
  obtain ⟨k, hk⟩ : ∃ z, u.size = z + 1 := ⟨u.size - 1, by omega⟩
  obtain ⟨e, a, h5, h6⟩ := h4
  unfold row; rw [hk, parts, if_neg (by rw [h1]; decide), h2]
  simp only
  rw [parts, if_neg (by rw [h3]; decide), h5]; exact Lim.mk h6
/-- What may come of a pattern that is put together: a limit's error, or this tree. -/
def MadeR (s : ByteArray) (t : Tr) (n : Int) : Prop := (∃ e a, read s = .error (e, a) ∧ (e = 2 ∨ e = 5 ∨ e = 6 ∨ e = 7)) ∨ read s = .ok (t, n)
theorem made_of {s : ByteArray} {t : Tr} {n : Int} (h : Lim (choice s 9 ⟨0, 0⟩) ∨ choice s 9 ⟨0, 0⟩ = .ok (t, ⟨s.size, n⟩)) : MadeR s t n := by
  unfold MadeR read
  split
  · exact Or.inl ⟨2, 0, rfl, Or.inl rfl⟩
  · rcases h with ⟨e, a, h1, h2⟩ | h1
    · rw [h1]; exact Or.inl ⟨e, a, rfl, by omega⟩
    · rw [h1]
      simp only
      rw [if_neg (by omega)]
      split
      · exact Or.inl ⟨7, 0, rfl, by omega⟩
      · exact Or.inr rfl
theorem choice_r1 {u : ByteArray} {y : At} {t : Tr} (h : Lim (row (choice u 8) u 0 ⟨0, 0⟩) ∨ row (choice u 8) u 0 ⟨0, 0⟩ = .ok (t, y)) (hy : isAt u y.i 124 = false) : Lim (choice u 9 ⟨0, 0⟩) ∨ choice u 9 ⟨0, 0⟩ = .ok (choiceT [t], y) := by
  unfold choice rows
  rcases h with ⟨e, a, h1, h2⟩ | h1
  · simp only [Nat.sub_self]; rw [h1]; exact Or.inl (Lim.mk h2)
  · simp only [Nat.sub_self]; rw [h1]; simp only; rw [hy]; exact Or.inr rfl
theorem choice_r2 {u : ByteArray} {y z : At} {t t' : Tr} (h : row (choice u 8) u 0 ⟨0, 0⟩ = .ok (t, y)) (hy : isAt u y.i 124 = true) (k : Lim (row (choice u 8) u 0 ⟨y.i + 1, y.t⟩) ∨ row (choice u 8) u 0 ⟨y.i + 1, y.t⟩ = .ok (t', z)) (hz : isAt u z.i 124 = false) (hu : 1 ≤ u.size) : Lim (choice u 9 ⟨0, 0⟩) ∨ choice u 9 ⟨0, 0⟩ = .ok (choiceT [t, t'], z) := by
  obtain ⟨c, hc⟩ : ∃ z, u.size = z + 1 := ⟨u.size - 1, by omega⟩
  unfold choice
  rw [hc, rows]
  simp only [Nat.sub_self]
  rw [h]
  simp only
  rw [hy, if_pos rfl, rows]
  rcases k with ⟨e, a, h1, h2⟩ | h1
  · rw [h1]; exact Or.inl (Lim.mk h2)
  · rw [h1]; simp only; rw [hz]; exact Or.inr rfl

theorem choice_l1 {u : ByteArray} (h : Lim (row (choice u 8) u 0 ⟨0, 0⟩)) : Lim (choice u 9 ⟨0, 0⟩) := by
  obtain ⟨e, a, h1, h2⟩ := h
  unfold choice rows
  simp only [Nat.sub_self]; rw [h1]; exact Lim.mk h2
def chosenS (a b : List UInt8) : List UInt8 := ((([40, 63, 58] ++ a) ++ [41, 124, 40, 63, 58]) ++ b) ++ [41]
def joinedS (a b : List UInt8) : List UInt8 := ((([40, 63, 58] ++ a) ++ [41, 40, 63, 58]) ++ b) ++ [41]
def turnedS (a : List UInt8) : List UInt8 := ([40, 63, 58] ++ a) ++ [41, 42]

theorem chosen_read {a b : List UInt8} {ta tb : Tr} {na nb : Int} (ha : read (str a) = .ok (ta, na)) (hb : read (str b) = .ok (tb, nb)) : MadeR (str (chosenS a b)) (chosenT (renT 0 ta) (renT na.toNat tb)) (na + nb) := by
  have hna := (read_choice ha).2.2.1
  have hz : (str (chosenS a b)).size = 9 + a.length + b.length := by rw [str_size]; simp [chosenS]; omega
  have sa : Sits (str a) (str (chosenS a b)) (0 + 3) := sits_mid [40, 63, 58] a ([124, 40, 63, 58] ++ b ++ [41]) (by simp [chosenS]) rfl
  have sb : Sits (str b) (str (chosenS a b)) ((a.length + 5) + 3) := sits_mid ([40, 63, 58] ++ a ++ [41, 124, 40, 63, 58]) b [] (by simp [chosenS]) (by simp <;> omega)
  have b0 : byteAt (str (chosenS a b)) 0 = 40 := byteAt_at [] ([63, 58] ++ a ++ [41, 124, 40, 63, 58] ++ b ++ [41]) 40 (by simp [chosenS]) rfl
  have b1 : byteAt (str (chosenS a b)) (0 + 1) = 63 := byteAt_at [40] ([58] ++ a ++ [41, 124, 40, 63, 58] ++ b ++ [41]) 63 (by simp [chosenS]) rfl
  have b2 : byteAt (str (chosenS a b)) (0 + 2) = 58 := byteAt_at [40, 63] (a ++ [41, 124, 40, 63, 58] ++ b ++ [41]) 58 (by simp [chosenS]) rfl
  have b4 : byteAt (str (chosenS a b)) (a.length + 4) = 124 := byteAt_at ([40, 63, 58] ++ a ++ [41]) ([40, 63, 58] ++ b ++ [41]) 124 (by simp [chosenS]) (by simp <;> omega)
  have b5 : byteAt (str (chosenS a b)) (a.length + 5) = 40 := byteAt_at ([40, 63, 58] ++ a ++ [41, 124]) ([63, 58] ++ b ++ [41]) 40 (by simp [chosenS]) (by simp <;> omega)
  have b6 : byteAt (str (chosenS a b)) (a.length + 5 + 1) = 63 := byteAt_at ([40, 63, 58] ++ a ++ [41, 124, 40]) ([58] ++ b ++ [41]) 63 (by simp [chosenS]) (by simp <;> omega)
  have b7 : byteAt (str (chosenS a b)) (a.length + 5 + 2) = 58 := byteAt_at ([40, 63, 58] ++ a ++ [41, 124, 40, 63]) (b ++ [41]) 58 (by simp [chosenS]) (by simp <;> omega)
  revert hz sa sb b0 b1 b2 b4 b5 b6 b7
  generalize str (chosenS a b) = u
  intro hz sa sb b0 b1 b2 b4 b5 b6 b7
  refine made_of ?_
  have o0 : over u 0 = false := over_no b0 (by omega)
  have o4 : over u (a.length + 4) = true := over_bar b4 (by omega)
  have o5 : over u (a.length + 5) = false := over_no b5 (by omega)
  rcases quiet_sit (n := 0) sa b0 b1 b2 ha with l | e1
  · exact Or.inl (choice_l1 (row_l1 o0 (part_lim l)))
  rw [str_size, show na + ((0 : Nat) : Int) = na by omega] at e1
  have c1 : count u (a.length + 0 + 4) = .ok (-1, 0, a.length + 4) := by
    show count u (a.length + 4) = _
    refine count_no ?_ ?_ ?_ ?_ <;> (rw [is_at b4 (by omega)]; decide)
  have p1 := part_q e1 c1
  have r1 : row (choice u 8) u 0 ⟨0, 0⟩ = .ok (rowT [quietG (renT 0 ta) (-1) 0], ⟨a.length + 4, na⟩) := row_q1 o0 p1 o4 (by omega)
  refine choice_r2 (z := ⟨u.size, na + nb⟩) r1 (by rw [is_at b4 (by omega)]; decide) ?_ (is_end (Nat.le_refl _)) (by omega)
  show Lim (row (choice u 8) u 0 ⟨a.length + 5, na⟩) ∨ row (choice u 8) u 0 ⟨a.length + 5, na⟩ = _
  have en : na = (na.toNat : Int) := by omega
  rw [en]
  rcases quiet_sit (n := na.toNat) sb b5 b6 b7 hb with l | e2
  · exact Or.inl (row_l1 o5 (part_lim l))
  rw [str_size] at e2
  have ez : b.length + (a.length + 5) + 4 = u.size := by omega
  rw [ez] at e2
  have c2 : count u u.size = .ok (-1, 0, u.size) := count_no (is_end (Nat.le_refl _)) (is_end (Nat.le_refl _)) (is_end (Nat.le_refl _)) (is_end (Nat.le_refl _))
  right
  rw [row_q1 o5 (part_q e2 c2) (over_end (Nat.le_refl _)) (by omega), Int.add_comm]
  rfl
theorem joined_read {a b : List UInt8} {ta tb : Tr} {na nb : Int} (ha : read (str a) = .ok (ta, na)) (hb : read (str b) = .ok (tb, nb)) : MadeR (str (joinedS a b)) (joinedT (renT 0 ta) (renT na.toNat tb)) (na + nb) := by
  have hna := (read_choice ha).2.2.1
  have hz : (str (joinedS a b)).size = 8 + a.length + b.length := by rw [str_size]; simp [joinedS]; omega
  have sa : Sits (str a) (str (joinedS a b)) (0 + 3) := sits_mid [40, 63, 58] a ([40, 63, 58] ++ b ++ [41]) (by simp [joinedS]) rfl
  have sb : Sits (str b) (str (joinedS a b)) ((a.length + 4) + 3) := sits_mid ([40, 63, 58] ++ a ++ [41, 40, 63, 58]) b [] (by simp [joinedS]) (by simp <;> omega)
  have b0 : byteAt (str (joinedS a b)) 0 = 40 := byteAt_at [] ([63, 58] ++ a ++ [41, 40, 63, 58] ++ b ++ [41]) 40 (by simp [joinedS]) rfl
  have b1 : byteAt (str (joinedS a b)) (0 + 1) = 63 := byteAt_at [40] ([58] ++ a ++ [41, 40, 63, 58] ++ b ++ [41]) 63 (by simp [joinedS]) rfl
  have b2 : byteAt (str (joinedS a b)) (0 + 2) = 58 := byteAt_at [40, 63] (a ++ [41, 40, 63, 58] ++ b ++ [41]) 58 (by simp [joinedS]) rfl
  have b5 : byteAt (str (joinedS a b)) (a.length + 4) = 40 := byteAt_at ([40, 63, 58] ++ a ++ [41]) ([63, 58] ++ b ++ [41]) 40 (by simp [joinedS]) (by simp <;> omega)
  have b6 : byteAt (str (joinedS a b)) (a.length + 4 + 1) = 63 := byteAt_at ([40, 63, 58] ++ a ++ [41, 40]) ([58] ++ b ++ [41]) 63 (by simp [joinedS]) (by simp <;> omega)
  have b7 : byteAt (str (joinedS a b)) (a.length + 4 + 2) = 58 := byteAt_at ([40, 63, 58] ++ a ++ [41, 40, 63]) (b ++ [41]) 58 (by simp [joinedS]) (by simp <;> omega)
  revert hz sa sb b0 b1 b2 b5 b6 b7
  generalize str (joinedS a b) = u
  intro hz sa sb b0 b1 b2 b5 b6 b7
  refine made_of ?_
  have o0 : over u 0 = false := over_no b0 (by omega)
  have o5 : over u (a.length + 4) = false := over_no b5 (by omega)
  rcases quiet_sit (n := 0) sa b0 b1 b2 ha with l | e1
  · exact Or.inl (choice_l1 (row_l1 o0 (part_lim l)))
  rw [str_size] at e1
  have c1 : count u (a.length + 0 + 4) = .ok (-1, 0, a.length + 4) := by
    show count u (a.length + 4) = _
    refine count_no ?_ ?_ ?_ ?_ <;> (rw [is_at b5 (by omega)]; decide)
  have p1 := part_q e1 c1
  have en : na + ((0 : Nat) : Int) = (na.toNat : Int) := by omega
  rw [en] at p1
  rcases quiet_sit (n := na.toNat) sb b5 b6 b7 hb with l | e2
  · exact Or.inl (choice_l1 (row_l2 o0 p1 o5 (part_lim l) (by omega)))
  rw [str_size] at e2
  have ez : b.length + (a.length + 4) + 4 = u.size := by omega
  rw [ez] at e2
  have c2 : count u u.size = .ok (-1, 0, u.size) := count_no (is_end (Nat.le_refl _)) (is_end (Nat.le_refl _)) (is_end (Nat.le_refl _)) (is_end (Nat.le_refl _))
  have r := row_q2 o0 p1 o5 (part_q e2 c2) (over_end (Nat.le_refl _)) (by omega)
  refine choice_r1 (y := ⟨u.size, na + nb⟩) (Or.inr ?_) (is_end (Nat.le_refl _))
  rw [show na + nb = nb + (na.toNat : Int) by omega]
  exact r
theorem turned_read {a : List UInt8} {ta : Tr} {na : Int} (ha : read (str a) = .ok (ta, na)) : MadeR (str (turnedS a)) (turnedT (renT 0 ta)) na := by
  have hna := (read_choice ha).2.2.1
  have hz : (str (turnedS a)).size = 5 + a.length := by rw [str_size]; simp [turnedS]; omega
  have sa : Sits (str a) (str (turnedS a)) (0 + 3) := sits_mid [40, 63, 58] a [42] (by simp [turnedS]) rfl
  have b0 : byteAt (str (turnedS a)) 0 = 40 := byteAt_at [] ([63, 58] ++ a ++ [41, 42]) 40 (by simp [turnedS]) rfl
  have b1 : byteAt (str (turnedS a)) (0 + 1) = 63 := byteAt_at [40] ([58] ++ a ++ [41, 42]) 63 (by simp [turnedS]) rfl
  have b2 : byteAt (str (turnedS a)) (0 + 2) = 58 := byteAt_at [40, 63] (a ++ [41, 42]) 58 (by simp [turnedS]) rfl
  have b4 : byteAt (str (turnedS a)) (a.length + 4) = 42 := byteAt_at ([40, 63, 58] ++ a ++ [41]) [] 42 (by simp [turnedS]) (by simp <;> omega)
  revert hz sa b0 b1 b2 b4
  generalize str (turnedS a) = u
  intro hz sa b0 b1 b2 b4
  refine made_of ?_
  have o0 : over u 0 = false := over_no b0 (by omega)
  rcases quiet_sit (n := 0) sa b0 b1 b2 ha with l | e1
  · exact Or.inl (choice_l1 (row_l1 o0 (part_lim l)))
  rw [str_size] at e1
  have c1 : count u (a.length + 0 + 4) = .ok (0, -1, u.size) := by
    show count u (a.length + 4) = _
    rw [count_star (by rw [is_at b4 (by omega)]; decide), show a.length + 4 + 1 = u.size by omega]
  have r := row_q1 o0 (part_q e1 c1) (over_end (Nat.le_refl _)) (by omega)
  refine choice_r1 (y := ⟨u.size, na⟩) (Or.inr ?_) (is_end (Nat.le_refl _))
  rw [show na = na + ((0 : Nat) : Int) by omega]
  exact r
theorem ren_zero : ∀ (l : List Tr), ren 0 l = l
  | [] => ren_nil 0
  | ⟨a, ks⟩ :: r => by
    rw [ren, ren_zero ks, ren_zero r]
    congr 2
    unfold renL
    obtain ⟨k, b, s, no, to, nu, mi, ma⟩ := a
    simp only
    congr 1
    by_cases h : nu = 0 <;> simp [h]
theorem renT_zero (t : Tr) : renT 0 t = t := by
  have := ren_zero [t]
  rw [ren_one] at this
  simpa using this
end Sp
end Go.Proofs.YtcpfpnjkfahjcaaGreat
