import Derived.Test.YtcpfpnjkfahjcaaDoorH02
/- Lists as they are printed: no program is named here. -/
set_option linter.unusedSimpArgs false
set_option linter.unusedVariables false
namespace Go.Proofs.YtcpfpnjkfahjcaaDoor
namespace Sp

/-- The last byte that goes on from c. -/
def runLast (f : Nat → Bool) : Nat → Nat → Nat
  | 0, c => c
  | n + 1, c => if c < 255 ∧ f (c + 1) = true then runLast f n (c + 1) else c
theorem runLast_ge (f : Nat → Bool) : ∀ n c, c ≤ runLast f n c
  | 0, c => Nat.le_refl _
  | n + 1, c => by
    unfold runLast; split
    · have := runLast_ge f n (c + 1); omega
    · exact Nat.le_refl _
theorem runLast_le (f : Nat → Bool) : ∀ n c, c ≤ 255 → runLast f n c ≤ 255
  | 0, c, h => h
  | n + 1, c, h => by
    unfold runLast; split
    · exact runLast_le f n (c + 1) (by omega)
    · exact h
def piece (c last : Nat) : List UInt8 :=
  if last = c then shown c true else if last = c + 1 then shown c true ++ shown last true else shown c true ++ [45] ++ shown last true
def listedFrom (f : Nat → Bool) : Nat → Nat → List UInt8
  | 0, _ => []
  | n + 1, c => if c < 256 then (if f c then piece c (runLast f 256 c) ++ listedFrom f n (runLast f 256 c + 1) else listedFrom f n (c + 1)) else []
def listed (f : Nat → Bool) : List UInt8 := listedFrom f 257 0
theorem listedFrom_out (f : Nat → Bool) (n c : Nat) (h : 256 ≤ c) : listedFrom f n c = [] := by
  cases n with
  | zero => rfl
  | succ n => unfold listedFrom; rw [if_neg (by omega)]
end Sp
end Go.Proofs.YtcpfpnjkfahjcaaDoor

/- A pattern as text: no program is named here. -/
set_option linter.unusedSimpArgs false
set_option linter.unusedVariables false
namespace Go.Proofs.YtcpfpnjkfahjcaaDoor
namespace Sp

def bare1 (a : Lab) (inner : List UInt8) : List UInt8 :=
  if a.kind = 1 then [46]
  else if a.kind = 0 then shown a.byte false
  else if a.kind = 2 then (if a.not then [91, 94] else [91]) ++ listed a.set ++ [93]
  else if a.kind = 3 then (if a.told then [40] else [40, 63, 58]) ++ inner ++ [41]
  else inner
def cnt (a : Lab) : List UInt8 :=
  if a.min < 0 then []
  else if a.min = 0 ∧ a.max < 0 then [42]
  else if a.min = 1 ∧ a.max < 0 then [43]
  else if a.min = 0 ∧ a.max = 1 then [63]
  else if a.max < 0 then [123] ++ digs a.min ++ [44, 125]
  else if a.min = a.max then [123] ++ digs a.min ++ [125]
  else [123] ++ digs a.min ++ [44] ++ digs a.max ++ [125]
/-- The parts of a node as text, one behind the other; with a bar between them, or not. -/
def texts (bar : Bool) : Bool → List Tr → List UInt8
  | _, [] => []
  | first, ⟨a, ks⟩ :: r => (if bar && !first then [124] else []) ++ (bare1 a (texts (a.kind == 4) true ks) ++ cnt a) ++ texts bar false r
def bareT (t : Tr) : List UInt8 := bare1 t.lab (texts (t.lab.kind == 4) true t.kids)
def text (t : Tr) : List UInt8 := bareT t ++ cnt t.lab

theorem texts_cons (bar first : Bool) (t : Tr) (r : List Tr) : texts bar first (t :: r) = (if bar && !first then [124] else []) ++ text t ++ texts bar false r := by
  obtain ⟨a, ks⟩ := t; rw [texts]; rfl
theorem texts_snoc (bar : Bool) (t : Tr) : ∀ (l : List Tr) (first : Bool), texts bar first (l ++ [t]) = texts bar first l ++ ((if bar && !(first && l.isEmpty) then [124] else []) ++ text t)
  | [], first => by show texts bar first [t] = _; rw [texts_cons]; simp [texts]
  | u :: r, first => by show texts bar first (u :: (r ++ [t])) = _; rw [texts_cons, texts_cons, texts_snoc bar t r false]; simp

def nodes : List Tr → Nat
  | [] => 0
  | ⟨_, ks⟩ :: r => 1 + nodes ks + nodes r
theorem nodes_cons (t : Tr) (r : List Tr) : nodes (t :: r) = 1 + nodes t.kids + nodes r := by obtain ⟨a, ks⟩ := t; rw [nodes]
theorem nodes_append : ∀ (l m : List Tr), nodes (l ++ m) = nodes l + nodes m
  | [], m => by simp [nodes]
  | t :: r, m => by show nodes (t :: (r ++ m)) = _; rw [nodes_cons, nodes_cons, nodes_append r m]; omega
theorem length_le_nodes : ∀ (l : List Tr), l.length ≤ nodes l
  | [] => by simp
  | t :: r => by rw [nodes_cons]; have := length_le_nodes r; simp; omega

theorem shown_le (c : Int) (l : Bool) : (shown c l).length ≤ 4 := by unfold shown; (repeat' split) <;> simp
theorem piece_le (c l : Nat) : (piece c l).length ≤ 9 := by
  have h1 := shown_le c true
  have h2 := shown_le l true
  unfold piece; (repeat' split) <;> simp <;> omega
theorem listedFrom_le (f : Nat → Bool) : ∀ n c, (listedFrom f n c).length ≤ 9 * (256 - c)
  | 0, c => by simp [listedFrom]
  | n + 1, c => by
    unfold listedFrom
    split
    · split
      · have h1 := piece_le c (runLast f 256 c)
        have h2 := runLast_ge f 256 c
        have h3 := listedFrom_le f n (runLast f 256 c + 1)
        simp; omega
      · have h3 := listedFrom_le f n (c + 1); omega
    · simp
theorem listed_le (f : Nat → Bool) : (listed f).length ≤ 2304 := listedFrom_le f 257 0
theorem digs_le (n : Int) : (digs n).length ≤ 2 := by unfold digs; split <;> simp
theorem cnt_le (a : Lab) : (cnt a).length ≤ 7 := by
  have h1 := digs_le a.min
  have h2 := digs_le a.max
  unfold cnt; (repeat' split) <;> simp <;> omega
theorem bare1_le (a : Lab) (l : List UInt8) : (bare1 a l).length ≤ l.length + 2310 := by
  have h1 := shown_le a.byte false
  have h2 := listed_le a.set
  unfold bare1; (repeat' split) <;> simp <;> omega
theorem texts_le (bar : Bool) : ∀ (ts : List Tr) (first : Bool), (texts bar first ts).length ≤ 2320 * nodes ts
  | [], first => by simp [texts]
  | ⟨a, ks⟩ :: r, first => by
    rw [texts, nodes]
    have h1 := texts_le (a.kind == 4) ks true
    have h2 := texts_le bar r false
    have h3 := bare1_le a (texts (a.kind == 4) true ks)
    have h4 := cnt_le a
    have h5 : (if (bar && !first) = true then [124] else [] : List UInt8).length ≤ 1 := by split <;> simp
    simp only [List.length_append]
    omega
end Sp
end Go.Proofs.YtcpfpnjkfahjcaaDoor

/- How many nodes a pattern has, and what printing it answers: no program is named here. -/
set_option linter.unusedSimpArgs false
set_option linter.unusedVariables false
namespace Go.Proofs.YtcpfpnjkfahjcaaDoor
open Go.RowKit

namespace Sp

/-- How many nodes are made of so many bytes. -/
def Nods (f : At → Res (Tr × At)) (s : ByteArray) : Prop := ∀ x t y, f x = .ok (t, y) → x.i ≤ s.size → 0 ≤ x.t → x.t ≤ 9 → nodes [t] ≤ 2 * (y.i - x.i) + 2
theorem nodes_one (a : Lab) (ks : List Tr) : nodes [⟨a, ks⟩] = 1 + nodes ks := by rw [nodes, nodes]; rfl
theorem list_nods {s : ByteArray} {i j : Nat} {t : Tr} (h : list s i = .ok (t, j)) : nodes [t] = 1 := by
  unfold list at h
  simp only [] at h
  cases h1 : items s (s.size + 1) (fun _ => false) (if isAt s i 94 = true then i + 1 else i) with
  | error f => simp [h1] at h
  | ok v => obtain ⟨set, k⟩ := v; simp only [h1] at h; cases h; rw [nodes_one, nodes]
theorem head_far {s : ByteArray} {d : Nat} {x : At} {k : Nat} {y : At} (h : head s d x = .ok (k, y)) : x.i + 1 ≤ y.i := by
  unfold head at h
  by_cases h1 : 8 ≤ d
  · rw [if_pos h1] at h; cases h
  rw [if_neg h1] at h
  by_cases h2 : isAt s (x.i + 1) 63 = true
  · rw [if_pos h2] at h
    cases hn : need 58 s (x.i + 2) with
    | error f => rw [hn] at h; cases h
    | ok j => rw [hn] at h; cases h; have := need_ok hn; simp; omega
  rw [if_neg h2] at h
  by_cases h3 : 9 ≤ x.t
  · rw [if_pos h3] at h; cases h
  rw [if_neg h3] at h; cases h; simp
theorem atom_nods {s : ByteArray} {d : Nat} {sub : At → Res (Tr × At)} (hg : Good s sub) (hs : Nods sub s) {x : At} {t : Tr} {y : At} (h : atom sub s d x = .ok (t, y)) (h0 : 0 ≤ x.t) (h9 : x.t ≤ 9) : nodes [t] ≤ 2 * (y.i - x.i) := by
  have hgood := atom_good hg h h0 h9
  unfold atom at h
  by_cases c1 : isAt s x.i 40 = true
  · rw [if_pos c1] at h
    unfold group at h
    cases hh : head s d x with
    | error f => rw [hh] at h; cases h
    | ok v =>
      obtain ⟨k, z⟩ := v
      rw [hh] at h
      have a := head_ok hh (isAt_lt c1) h0 h9
      have a' := head_far hh
      cases hb : sub z with
      | error f => simp [hb] at h
      | ok v =>
        obtain ⟨t', u⟩ := v
        have b := hs z t' u hb a.2.1 a.2.2.1 a.2.2.2
        have b' := hg z t' u hb a.2.1 a.2.2.1 a.2.2.2
        cases hn : need 41 s u.i with
        | error f => simp [hb, hn] at h
        | ok j =>
          simp [hb, hn] at h; obtain ⟨rfl, rfl⟩ := h
          have := need_ok hn
          rw [nodes_one]; simp; omega
  rw [if_neg c1] at h
  by_cases c2 : isAt s x.i 91 = true
  · rw [if_pos c2] at h
    cases h1 : list s (x.i + 1) with
    | error f => simp [h1] at h
    | ok v => obtain ⟨t', j⟩ := v; simp [h1] at h; obtain ⟨rfl, rfl⟩ := h; rw [list_nods h1]; omega
  rw [if_neg c2] at h
  by_cases c3 : isAt s x.i 46 = true
  · rw [if_pos c3] at h; cases h; rw [nodes_one, nodes]; omega
  rw [if_neg c3] at h
  cases h1 : byteBut false s x.i with
  | error f => simp [h1] at h
  | ok v => obtain ⟨b, j⟩ := v; simp [h1] at h; obtain ⟨rfl, rfl⟩ := h; rw [nodes_one, nodes]; omega
theorem part_nods {s : ByteArray} {d : Nat} {sub : At → Res (Tr × At)} (hg : Good s sub) (hs : Nods sub s) {x : At} {t : Tr} {y : At} (h : part sub s d x = .ok (t, y)) (h0 : 0 ≤ x.t) (h9 : x.t ≤ 9) : nodes [t] ≤ 2 * (y.i - x.i) := by
  unfold part at h
  cases h1 : atom sub s d x with
  | error f => simp [h1] at h
  | ok v =>
    obtain ⟨t', z⟩ := v
    have g := atom_nods hg hs h1 h0 h9
    have g' := atom_good hg h1 h0 h9
    cases h2 : count s z.i with
    | error f => simp [h1, h2] at h
    | ok v =>
      obtain ⟨m, n, j⟩ := v
      simp [h1, h2] at h; obtain ⟨rfl, rfl⟩ := h
      have := count_in h2 g'.2.1
      obtain ⟨la, ks⟩ := t'
      rw [nodes_one] at g
      rw [nodes_one]; simp; omega
theorem parts_nods {s : ByteArray} {d : Nat} {sub : At → Res (Tr × At)} (hg : Good s sub) (hs : Nods sub s) : ∀ {n : Nat} {l : List Tr} {x : At} {l' : List Tr} {y : At}, parts sub s d n l x = .ok (l', y) → x.i ≤ s.size → 0 ≤ x.t → x.t ≤ 9 → nodes l' ≤ nodes l + 2 * (y.i - x.i)
  | 0, _, _, _, _, h, _, _, _ => by cases h
  | n + 1, l, x, l', y, h, hi, h0, h9 => by
    unfold parts at h
    split at h
    · cases h; omega
    · cases h1 : part sub s d x with
      | error f => simp [h1] at h
      | ok v =>
        obtain ⟨t', z⟩ := v
        have g := part_good hg h1 h0 h9
        have m := part_nods hg hs h1 h0 h9
        simp only [h1] at h
        have r := parts_nods hg hs h g.2.1 g.2.2.1 g.2.2.2
        have q := parts_good hg h g.2.1 g.2.2.1 g.2.2.2
        rw [nodes_append] at r
        omega
theorem row_nods {s : ByteArray} {d : Nat} {sub : At → Res (Tr × At)} (hg : Good s sub) (hs : Nods sub s) {x : At} {t : Tr} {y : At} (h : row sub s d x = .ok (t, y)) (hi : x.i ≤ s.size) (h0 : 0 ≤ x.t) (h9 : x.t ≤ 9) : nodes [t] ≤ 2 * (y.i - x.i) + 1 := by
  unfold row at h
  cases h1 : parts sub s d (s.size + 1) [] x with
  | error f => simp [h1] at h
  | ok v =>
    obtain ⟨l, z⟩ := v
    simp [h1] at h; obtain ⟨rfl, rfl⟩ := h
    have a := parts_nods hg hs h1 hi h0 h9
    rw [nodes_one]; simp [nodes] at a; omega
theorem rows_nods {s : ByteArray} {d : Nat} {sub : At → Res (Tr × At)} (hg : Good s sub) (hs : Nods sub s) : ∀ {n : Nat} {l : List Tr} {x : At} {l' : List Tr} {y : At}, rows sub s d n l x = .ok (l', y) → x.i ≤ s.size → 0 ≤ x.t → x.t ≤ 9 → nodes l' ≤ nodes l + 2 * (y.i - x.i) + 1
  | 0, _, _, _, _, h, _, _, _ => by cases h
  | n + 1, l, x, l', y, h, hi, h0, h9 => by
    unfold rows at h
    cases h1 : row sub s d x with
    | error f => simp [h1] at h
    | ok v =>
      obtain ⟨t', z⟩ := v
      have g := row_good hg x t' z h1 hi h0 h9
      have m := row_nods hg hs h1 hi h0 h9
      simp only [h1] at h
      split at h
      · rename_i q
        have q' := isAt_lt q
        have r := rows_nods hg hs h (by simp; omega) g.2.2.1 g.2.2.2
        have r' := rows_good hg h (by simp; omega) g.2.2.1 g.2.2.2
        rw [nodes_append] at r
        simp at r r'; omega
      · cases h; rw [nodes_append]; omega
theorem choice_nods (s : ByteArray) : ∀ k, Nods (choice s k) s
  | 0 => by intro x t y h; cases h
  | k + 1 => by
    intro x t y h hi h0 h9
    unfold choice at h
    cases h1 : rows (choice s k) s (8 - k) (s.size + 1) [] x with
    | error f => simp [h1] at h
    | ok v =>
      obtain ⟨l, z⟩ := v
      simp [h1] at h; obtain ⟨rfl, rfl⟩ := h
      have a := rows_nods (choice_good s k) (choice_nods s k) h1 hi h0 h9
      rw [nodes_one]; simp [nodes] at a; omega
theorem read_nods {s : ByteArray} {t : Tr} {n : Int} (h : read s = .ok (t, n)) : nodes [t] ≤ 402 := by
  unfold read at h
  split at h
  · cases h
  · cases h1 : choice s 9 ⟨0, 0⟩ with
    | error f => simp [h1] at h
    | ok v =>
      obtain ⟨t', y⟩ := v
      have a := choice_nods s 9 ⟨0, 0⟩ t' y h1 (Nat.zero_le _) (by decide) (by decide)
      have b := choice_good s 9 ⟨0, 0⟩ t' y h1 (Nat.zero_le _) (by decide) (by decide)
      simp only [h1] at h
      split at h
      · cases h
      · split at h
        · cases h
        · cases h; simp at a; omega
end Sp

theorem tup3 {a b c x y z : Value} (h : a = x) (k : b = y) (l : c = z) : Ending.returned (.tuple #[a, b, c]) = .returned (.tuple #[x, y, z]) := by rw [h, k, l]
/-- What Print answers. -/
def printR (s : ByteArray) : List UInt8 × Int × Int := match Sp.read s with
  | .ok (t, _) => (Sp.text t, 0, 0)
  | .error (e, a) => ([], e, a)

def PrintOut (s : ByteArray) (w : World) (e : Ending) (w' : World) : Prop := e = .returned (.tuple #[.string (str (printR s).1), .int .i64 (printR s).2.1, .int .i64 (printR s).2.2]) ∧ Upd [] w w'
end Go.Proofs.YtcpfpnjkfahjcaaDoor
