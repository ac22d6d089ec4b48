import Derived.Test.YtcpfpnjkfahjcaaDoorH02
import Derived.Test.YtcpfpnjkfahjcaaDoorH13
import Derived.Test.YtcpfpnjkfahjcaaDoorH14
import Derived.Test.YtcpfpnjkfahjcaaDoorH03
/- A group's number tells whether it is told: no program is named here. -/
set_option linter.unusedSimpArgs false
set_option linter.unusedVariables false
namespace Go.Proofs.YtcpfpnjkfahjcaaDoor
open Go.RowKit

/-- A group has one part; it is told, if it has a number. -/
def Nums : List Tr → Prop
  | [] => True
  | ⟨a, ks⟩ :: r => (a.kind = 3 → ks.length = 1 ∧ a.told = decide (a.num ≠ 0)) ∧ Nums ks ∧ Nums r

theorem Nums_nil : Nums [] := by unfold Nums; trivial
theorem Nums_cons (t : Tr) (r : List Tr) : Nums (t :: r) = ((t.lab.kind = 3 → t.kids.length = 1 ∧ t.lab.told = decide (t.lab.num ≠ 0)) ∧ Nums t.kids ∧ Nums r) := by obtain ⟨a, ks⟩ := t; rw [Nums]
theorem Nums_append : ∀ (l m : List Tr), Nums l → Nums m → Nums (l ++ m)
  | [], _, _, h => h
  | t :: r, m, h, k => by
    rw [Nums_cons] at h
    show Nums (t :: (r ++ m))
    rw [Nums_cons]; exact ⟨h.1, h.2.1, Nums_append r m h.2.2 k⟩
theorem Nums_one {a : Lab} {ks : List Tr} (h1 : a.kind = 3 → ks.length = 1 ∧ a.told = decide (a.num ≠ 0)) (h2 : Nums ks) : Nums [⟨a, ks⟩] := by rw [Nums_cons]; exact ⟨h1, h2, Nums_nil⟩
namespace Sp
def NumsF (f : At → Res (Tr × At)) : Prop := ∀ x t y, f x = .ok (t, y) → Nums [t]
theorem list_nums {s : ByteArray} {i j : Nat} {t : Tr} (h : list s i = .ok (t, j)) : Nums [t] := by
  unfold list at h
  simp only [] at h
  cases h1 : items s (s.size + 1) (fun _ => false) (if isAt s i 94 = true then i + 1 else i) with
  | error f => simp [h1] at h
  | ok v =>
    obtain ⟨set, k⟩ := v
    simp only [h1] at h
    cases h
    exact Nums_one (by simp) Nums_nil
theorem atom_nums {s : ByteArray} {d : Nat} {sub : At → Res (Tr × At)} (hs : NumsF sub) {x : At} {t : Tr} {y : At} (h : atom sub s d x = .ok (t, y)) : Nums [t] := by
  unfold atom at h
  by_cases c1 : isAt s x.i 40 = true
  · rw [if_pos c1] at h
    unfold group at h
    cases hh : head s d x with
    | error f => rw [hh] at h; cases h
    | ok v =>
      obtain ⟨k, z⟩ := v
      rw [hh] at h
      cases hb : sub z with
      | error f => simp [hb] at h
      | ok v =>
        obtain ⟨t', u⟩ := v
        have b := hs z t' u hb
        cases hn : need 41 s u.i with
        | error f => simp [hb, hn] at h
        | ok j =>
          simp [hb, hn] at h; obtain ⟨rfl, rfl⟩ := h
          exact Nums_one (by simp) b
  rw [if_neg c1] at h
  by_cases c2 : isAt s x.i 91 = true
  · rw [if_pos c2] at h
    cases h1 : list s (x.i + 1) with
    | error f => simp [h1] at h
    | ok v => obtain ⟨t', j⟩ := v; simp [h1] at h; obtain ⟨rfl, rfl⟩ := h; exact list_nums h1
  rw [if_neg c2] at h
  by_cases c3 : isAt s x.i 46 = true
  · rw [if_pos c3] at h; cases h
    exact Nums_one (by simp) Nums_nil
  rw [if_neg c3] at h
  cases h1 : byteBut false s x.i with
  | error f => simp [h1] at h
  | ok v =>
    obtain ⟨b, j⟩ := v
    simp [h1] at h; obtain ⟨rfl, rfl⟩ := h
    exact Nums_one (by simp) Nums_nil
theorem part_nums {s : ByteArray} {d : Nat} {sub : At → Res (Tr × At)} (hs : NumsF sub) {x : At} {t : Tr} {y : At} (h : part sub s d x = .ok (t, y)) : Nums [t] := by
  unfold part at h
  cases h1 : atom sub s d x with
  | error f => simp [h1] at h
  | ok v =>
    obtain ⟨t', z⟩ := v
    have g := atom_nums hs h1
    rw [Nums_cons] at g
    cases h2 : count s z.i with
    | error f => simp [h1, h2] at h
    | ok v =>
      obtain ⟨m, n, j⟩ := v
      simp [h1, h2] at h; obtain ⟨rfl, rfl⟩ := h
      exact Nums_one g.1 g.2.1
theorem parts_nums {s : ByteArray} {d : Nat} {sub : At → Res (Tr × At)} (hs : NumsF sub) : ∀ {n : Nat} {l : List Tr} {x : At} {l' : List Tr} {y : At}, parts sub s d n l x = .ok (l', y) → Nums l → Nums l'
  | 0, _, _, _, _, h, _ => by cases h
  | n + 1, l, x, l', y, h, hl => by
    unfold parts at h
    split at h
    · cases h; exact hl
    · cases h1 : part sub s d x with
      | error f => simp [h1] at h
      | ok v =>
        obtain ⟨t', z⟩ := v
        simp only [h1] at h
        exact parts_nums hs h (Nums_append _ _ hl (part_nums hs h1))
theorem row_nums {s : ByteArray} {d : Nat} {sub : At → Res (Tr × At)} (hs : NumsF sub) : NumsF (row sub s d) := by
  intro x t y h
  unfold row at h
  cases h1 : parts sub s d (s.size + 1) [] x with
  | error f => simp [h1] at h
  | ok v =>
    obtain ⟨l, z⟩ := v
    simp [h1] at h; obtain ⟨rfl, rfl⟩ := h
    exact Nums_one (by simp) (parts_nums hs h1 Nums_nil)
theorem rows_nums {s : ByteArray} {d : Nat} {sub : At → Res (Tr × At)} (hs : NumsF sub) : ∀ {n : Nat} {l : List Tr} {x : At} {l' : List Tr} {y : At}, rows sub s d n l x = .ok (l', y) → Nums l → Nums l'
  | 0, _, _, _, _, h, _ => by cases h
  | n + 1, l, x, l', y, h, hl => by
    unfold rows at h
    cases h1 : row sub s d x with
    | error f => simp [h1] at h
    | ok v =>
      obtain ⟨t', z⟩ := v
      have m := row_nums hs x t' z h1
      simp only [h1] at h
      split at h
      · exact rows_nums hs h (Nums_append _ _ hl m)
      · cases h; exact Nums_append _ _ hl m
theorem choice_nums (s : ByteArray) : ∀ k, NumsF (choice s k)
  | 0 => by intro x t y h; cases h
  | k + 1 => by
    intro x t y h
    unfold choice at h
    cases h1 : rows (choice s k) s (8 - k) (s.size + 1) [] x with
    | error f => simp [h1] at h
    | ok v =>
      obtain ⟨l, z⟩ := v
      simp [h1] at h; obtain ⟨rfl, rfl⟩ := h
      exact Nums_one (by simp) (rows_nums (choice_nums s k) h1 Nums_nil)
theorem read_nums {s : ByteArray} {t : Tr} {n : Int} (h : read s = .ok (t, n)) : Nums [t] := by
  unfold read at h
  split at h
  · cases h
  · cases h1 : choice s 9 ⟨0, 0⟩ with
    | error f => simp [h1] at h
    | ok v =>
      obtain ⟨t', y⟩ := v
      simp only [h1] at h
      split at h
      · cases h
      · split at h
        · cases h
        · cases h; exact choice_nums s 9 _ _ _ h1
end Sp
end Go.Proofs.YtcpfpnjkfahjcaaDoor

/- An error has a number that is not 0: no program is named here. -/
set_option linter.unusedSimpArgs false
set_option linter.unusedVariables false
namespace Go.Proofs.YtcpfpnjkfahjcaaDoor
namespace Sp

theorem number_code {m : Int} {s : ByteArray} {i : Nat} {e a : Int} (h : number m s i = .error (e, a)) : e ≠ 0 := by
  unfold number at h; split at h
  · split at h
    · cases h; decide
    · cases h
  · cases h; decide
theorem need_code {c : Int} {s : ByteArray} {i : Nat} {e a : Int} (h : need c s i = .error (e, a)) : e ≠ 0 := by
  unfold need at h; split at h
  · cases h
  · cases h; decide
theorem bounds_code {s : ByteArray} {i : Nat} {e a : Int} (h : bounds s i = .error (e, a)) : e ≠ 0 := by
  unfold bounds at h
  cases h1 : number 0 s i with
  | error f => rw [h1] at h; cases h; exact number_code h1
  | ok p =>
    obtain ⟨m, j⟩ := p
    rw [h1] at h; simp only at h
    split at h
    · split at h
      · cases h2 : number m s (j + 1) with
        | error f => rw [h2] at h; cases h; exact number_code h2
        | ok p =>
          obtain ⟨n, k⟩ := p
          rw [h2] at h; simp only at h
          cases h3 : need 125 s k with
          | error f => rw [h3] at h; cases h; exact need_code h3
          | ok l => rw [h3] at h; cases h
      · cases h3 : need 125 s (j + 1) with
        | error f => rw [h3] at h; cases h; exact need_code h3
        | ok l => rw [h3] at h; cases h
    · cases h3 : need 125 s j with
      | error f => rw [h3] at h; cases h; exact need_code h3
      | ok l => rw [h3] at h; cases h
theorem count_code {s : ByteArray} {i : Nat} {e a : Int} (h : count s i = .error (e, a)) : e ≠ 0 := by
  unfold count at h
  split at h
  · cases h
  · split at h
    · cases h
    · split at h
      · cases h
      · split at h
        · exact bounds_code h
        · cases h
theorem byteBut_code {l : Bool} {s : ByteArray} {i : Nat} {e a : Int} (h : byteBut l s i = .error (e, a)) : e ≠ 0 := by rw [byteBut_err h]; decide
theorem item_code {s : ByteArray} {i : Nat} {e a : Int} (h : item s i = .error (e, a)) : e ≠ 0 := by
  unfold item at h
  cases h1 : byteBut true s i with
  | error f => rw [h1] at h; cases h; exact byteBut_code h1
  | ok p =>
    obtain ⟨b, j⟩ := p
    rw [h1] at h; simp only at h
    split at h
    · cases h2 : byteBut true s (j + 1) with
      | error f => rw [h2] at h; cases h; exact byteBut_code h2
      | ok p =>
        obtain ⟨c, k⟩ := p
        rw [h2] at h; simp only at h
        split at h
        · cases h; decide
        · cases h
    · cases h
theorem items_code {s : ByteArray} : ∀ {n : Nat} {set : Nat → Bool} {i : Nat} {e a : Int}, items s n set i = .error (e, a) → e ≠ 0
  | 0, _, _, _, _, h => by cases h; decide
  | n + 1, set, i, e, a, h => by
    unfold items at h
    cases h1 : item s i with
    | error f => rw [h1] at h; cases h; exact item_code h1
    | ok p =>
      obtain ⟨b, c, j⟩ := p
      rw [h1] at h; simp only at h
      split at h
      · cases h
      · exact items_code h
theorem list_code {s : ByteArray} {i : Nat} {e a : Int} (h : list s i = .error (e, a)) : e ≠ 0 := by
  unfold list at h
  simp only at h
  cases h1 : items s (s.size + 1) (fun _ => false) (if isAt s i 94 = true then i + 1 else i) with
  | error f => simp only [h1] at h; cases h; exact items_code h1
  | ok p => obtain ⟨set, k⟩ := p; simp only [h1] at h; cases h
theorem head_code {s : ByteArray} {d : Nat} {x : At} {e a : Int} (h : head s d x = .error (e, a)) : e ≠ 0 := by
  unfold head at h
  split at h
  · cases h; decide
  · split at h
    · cases h1 : need 58 s (x.i + 2) with
      | error f => rw [h1] at h; cases h; exact need_code h1
      | ok j => rw [h1] at h; cases h
    · split at h
      · cases h; decide
      · cases h
def CodeF (f : At → Res (Tr × At)) : Prop := ∀ x e a, f x = .error (e, a) → e ≠ 0
theorem group_code {sub : At → Res (Tr × At)} (hs : CodeF sub) {s : ByteArray} {d : Nat} {x : At} {e a : Int} (h : group sub s d x = .error (e, a)) : e ≠ 0 := by
  unfold group at h
  cases h1 : head s d x with
  | error f => rw [h1] at h; cases h; exact head_code h1
  | ok p =>
    obtain ⟨k, y⟩ := p
    rw [h1] at h; simp only at h
    cases h2 : sub y with
    | error f => rw [h2] at h; cases h; exact hs _ _ _ h2
    | ok p =>
      obtain ⟨t, z⟩ := p
      rw [h2] at h; simp only at h
      cases h3 : need 41 s z.i with
      | error f => rw [h3] at h; cases h; exact need_code h3
      | ok j => rw [h3] at h; cases h
theorem atom_code {sub : At → Res (Tr × At)} (hs : CodeF sub) {s : ByteArray} {d : Nat} {x : At} {e a : Int} (h : atom sub s d x = .error (e, a)) : e ≠ 0 := by
  unfold atom at h
  split at h
  · exact group_code hs h
  · split at h
    · cases h1 : list s (x.i + 1) with
      | error f => rw [h1] at h; cases h; exact list_code h1
      | ok p => obtain ⟨t, j⟩ := p; rw [h1] at h; cases h
    · split at h
      · cases h
      · cases h1 : byteBut false s x.i with
        | error f => rw [h1] at h; cases h; exact byteBut_code h1
        | ok p => obtain ⟨b, j⟩ := p; rw [h1] at h; cases h
theorem part_code {sub : At → Res (Tr × At)} (hs : CodeF sub) {s : ByteArray} {d : Nat} {x : At} {e a : Int} (h : part sub s d x = .error (e, a)) : e ≠ 0 := by
  unfold part at h
  cases h1 : atom sub s d x with
  | error f => rw [h1] at h; cases h; exact atom_code hs h1
  | ok p =>
    obtain ⟨t, y⟩ := p
    rw [h1] at h; simp only at h
    cases h2 : count s y.i with
    | error f => rw [h2] at h; cases h; exact count_code h2
    | ok p => obtain ⟨m, n, j⟩ := p; rw [h2] at h; cases h
theorem parts_code {sub : At → Res (Tr × At)} (hs : CodeF sub) {s : ByteArray} {d : Nat} : ∀ {n : Nat} {l : List Tr} {x : At} {e a : Int}, parts sub s d n l x = .error (e, a) → e ≠ 0
  | 0, _, _, _, _, h => by cases h; decide
  | n + 1, l, x, e, a, h => by
    unfold parts at h
    split at h
    · cases h
    · cases h1 : part sub s d x with
      | error f => rw [h1] at h; cases h; exact part_code hs h1
      | ok p => obtain ⟨t, y⟩ := p; rw [h1] at h; exact parts_code hs h
theorem row_code {sub : At → Res (Tr × At)} (hs : CodeF sub) {s : ByteArray} {d : Nat} : CodeF (row sub s d) := by
  intro x e a h
  unfold row at h
  cases h1 : parts sub s d (s.size + 1) [] x with
  | error f => rw [h1] at h; cases h; exact parts_code hs h1
  | ok p => obtain ⟨l, y⟩ := p; rw [h1] at h; cases h
theorem rows_code {sub : At → Res (Tr × At)} (hs : CodeF sub) {s : ByteArray} {d : Nat} : ∀ {n : Nat} {l : List Tr} {x : At} {e a : Int}, rows sub s d n l x = .error (e, a) → e ≠ 0
  | 0, _, _, _, _, h => by cases h; decide
  | n + 1, l, x, e, a, h => by
    unfold rows at h
    cases h1 : row sub s d x with
    | error f => rw [h1] at h; cases h; exact row_code hs _ _ _ h1
    | ok p =>
      obtain ⟨t, y⟩ := p
      rw [h1] at h; simp only at h
      split at h
      · exact rows_code hs h
      · cases h
theorem choice_code (s : ByteArray) : ∀ k, CodeF (choice s k)
  | 0 => by intro x e a h; cases h; decide
  | k + 1 => by
    intro x e a h
    unfold choice at h
    cases h1 : rows (choice s k) s (8 - k) (s.size + 1) [] x with
    | error f => rw [h1] at h; cases h; exact rows_code (choice_code s k) h1
    | ok p => obtain ⟨l, y⟩ := p; rw [h1] at h; cases h
theorem read_code {s : ByteArray} {e a : Int} (h : read s = .error (e, a)) : e ≠ 0 := by
  unfold read at h
  split at h
  · cases h; decide
  · cases h1 : choice s 9 ⟨0, 0⟩ with
    | error f => rw [h1] at h; cases h; exact choice_code s 9 _ _ _ h1
    | ok p =>
      obtain ⟨t, y⟩ := p
      rw [h1] at h; simp only at h
      split at h
      · cases h; decide
      · split at h
        · cases h; decide
        · cases h
end Sp
end Go.Proofs.YtcpfpnjkfahjcaaDoor

set_option linter.unusedSimpArgs false
set_option linter.unusedVariables false
namespace Go.Proofs.YtcpfpnjkfahjcaaDoor
open Go.RowKit

/-- A builder that holds these bytes; nothing of it lies below it. -/
def BdAt (w : World) (b : Nat) (l : List UInt8) : Prop := Lib.IsBuilder 69 5 b b (Lib.byteCells l) w
theorem BdAt.lt {w : World} {b : Nat} {l : List UInt8} (h : BdAt w b l) : b < w.heap.size := by
  rcases h with h | h <;> obtain ⟨_, v, hb, _⟩ := h <;> exact lt_of_heap hb
/-- What a call leaves that writes. -/
def PrOut (b : Nat) (l new : List UInt8) (w : World) (e : Ending) (w' : World) : Prop := e = .returned (.tuple #[]) ∧ BdAt w' b (l ++ new) ∧ Below b w w'

theorem bytes_snoc (l : List UInt8) (u : UInt8) : Lib.byteCells (l ++ [u]) = Lib.byteCells l ++ [.int .u8 u.toNat] := by simp [Lib.byteCells]
theorem bytes_app (l : List UInt8) (s : ByteArray) : Lib.byteCells (l ++ s.data.toList) = Lib.byteCells l ++ Lib.strCells s := by simp [Lib.byteCells, Lib.strCells]
theorem wb_any (b : Nat) (l : List UInt8) (u : UInt8) (w : World) (h : BdAt w b l) (hl : l.length ≤ 100000000) :
    Calls Tryd.prog 29 #[.pointer (some ⟨b, 0, none⟩), .int .u8 (u.toNat : Nat)] w fun e w' => e = .returned .nilIface ∧ BdAt w' b (l ++ [u]) ∧ Below b w w' :=
  (Any.Builder_WriteByte lays167 extra_renB b b (Lib.byteCells l) (u.toNat : Nat) w h (by simp [Lib.byteCells]; omega) (Nat.le_of_lt h.lt)).mono fun e w' q => ⟨q.1, Or.inr (by rw [bytes_snoc]; exact q.2.1), q.2.2⟩
theorem ws_any (b : Nat) (l : List UInt8) (s : ByteArray) (w : World) (h : BdAt w b l) (hl : l.length ≤ 100000000) (hs : s.size ≤ 100000000) :
    Calls Tryd.prog 41 #[.pointer (some ⟨b, 0, none⟩), .string s] w fun e w' => e = .returned (.tuple #[.int .i64 s.size, .nilIface]) ∧ BdAt w' b (l ++ s.data.toList) ∧ Below b w w' :=
  (Any.Builder_WriteString lays166 extra_renB b b (Lib.byteCells l) s w h (by simp [Lib.byteCells]; omega) (Nat.le_of_lt h.lt)).mono fun e w' q => ⟨q.1, Or.inr (by rw [bytes_app]; exact q.2.1), q.2.2⟩
theorem bstr_any (b : Nat) (l : List UInt8) (w : World) (h : BdAt w b l) :
    Calls Tryd.prog 17 #[.pointer (some ⟨b, 0, none⟩)] w fun e w' => e = .returned (.string (str l)) ∧ Below b w w' :=
  Any.Builder_String_any lays169 extra_lays169_ren b b l w h (Nat.le_of_lt h.lt)
theorem itoa_any (i : Nat) (hi : i < 100) (w : World) :
    Calls Tryd.prog 59 #[.int .i64 i] w fun e w' => e = .returned (.string ⟨(Lib.decDigits i).toArray⟩) ∧ w' = w := Any.strconv_Itoa_small lays171 i hi w
theorem dec_all : ((List.range 100).all fun n => Lib.decDigits n == Sp.digs (n : Int)) = true := by kernel_rfl
theorem dec_is {n : Nat} (h : n < 100) : Lib.decDigits n = Sp.digs (n : Int) := by
  have q := dec_all
  rw [List.all_eq_true] at q
  simpa using q n (List.mem_range.2 h)

set_option maxHeartbeats 400000 in
theorem prByte_n (b : Nat) (l : List UInt8) (sg : Bool) (w : World) (h : BdAt w b l) (hl : l.length ≤ 10000000) :
    Calls Tryd.prog 28 #[.pointer (some ⟨b, 0, none⟩), .int .u8 10, .string (sgL sg)] w (PrOut b l (Sp.shown 10 sg) w) := by
  have hh : Hid (BdAt w b l) := h
  have HR : Hid (Sp.shown 10 sg = [92, 110]) := by show _ = _; unfold Sp.shown; rw [if_pos rfl]
  clear h
  go_enter Tryd.func28, Tryd.ntmps28
  go_wp2_with fail
  refine (ws_any b l _ _ (by exact hh.out) (by omega) (by decide)).mono ?_
  rintro e w1 ⟨rfl, hb1, hu1⟩
  go_wp2_with fail
  go_end0
  exact ⟨rfl, by rw [HR.out]; exact hb1, hu1⟩
set_option maxHeartbeats 400000 in
theorem prByte_t (b : Nat) (l : List UInt8) (sg : Bool) (w : World) (h : BdAt w b l) (hl : l.length ≤ 10000000) :
    Calls Tryd.prog 28 #[.pointer (some ⟨b, 0, none⟩), .int .u8 9, .string (sgL sg)] w (PrOut b l (Sp.shown 9 sg) w) := by
  have hh : Hid (BdAt w b l) := h
  have HR : Hid (Sp.shown 9 sg = [92, 116]) := by show _ = _; unfold Sp.shown; rw [if_neg (by decide), if_pos rfl]
  clear h
  go_enter Tryd.func28, Tryd.ntmps28
  go_wp2_with fail
  refine (ws_any b l _ _ (by exact hh.out) (by omega) (by decide)).mono ?_
  rintro e w1 ⟨rfl, hb1, hu1⟩
  go_wp2_with fail
  go_end0
  exact ⟨rfl, by rw [HR.out]; exact hb1, hu1⟩
def hx16 : ByteArray := ⟨#[48, 49, 50, 51, 52, 53, 54, 55, 56, 57, 97, 98, 99, 100, 101, 102]⟩
theorem hx_is (n : Nat) (h : n < hx16.size) : hx16[n] = Sp.hexB (n : Int) := by
  have h' : n < 16 := h
  rcases (by omega : n = 0 ∨ n = 1 ∨ n = 2 ∨ n = 3 ∨ n = 4 ∨ n = 5 ∨ n = 6 ∨ n = 7 ∨ n = 8 ∨ n = 9 ∨ n = 10 ∨ n = 11 ∨ n = 12 ∨ n = 13 ∨ n = 14 ∨ n = 15) with rfl | rfl | rfl | rfl | rfl | rfl | rfl | rfl | rfl | rfl | rfl | rfl | rfl | rfl | rfl | rfl <;> rfl
theorem hx_at {c : Int} (h0 : 0 ≤ c) (h : c.toNat < hx16.size) : hx16[c.toNat] = Sp.hexB c := by
  rw [hx_is, show ((c.toNat : Nat) : Int) = c by omega]
theorem and_all : ((List.range 256).all fun n => bits BinOp.and IntKind.u8 (n : Int) 15 == (n : Int) % 16) = true := by kernel_rfl
theorem and_15 {c : Int} (h0 : 0 ≤ c) (h1 : c ≤ 255) : bits BinOp.and IntKind.u8 c 15 = c % 16 := by
  obtain ⟨n, rfl⟩ := Int.eq_ofNat_of_zero_le h0
  have h := and_all
  rw [List.all_eq_true] at h
  simpa using h n (List.mem_range.2 (by omega))

set_option maxHeartbeats 400000 in
theorem prByte_x (b : Nat) (l : List UInt8) (sg : Bool) (c : Int) (w : World) (h : BdAt w b l) (hl : l.length ≤ 10000000) (h0 : 0 ≤ c) (h1 : c ≤ 255) (hn : c ≠ 10) (ht : c ≠ 9) (hx : c < 33 ∨ 126 < c) :
    Calls Tryd.prog 28 #[.pointer (some ⟨b, 0, none⟩), .int .u8 c, .string (sgL sg)] w (PrOut b l (Sp.shown c sg) w) := by
  have hh : Hid (BdAt w b l) := h
  have HR : Hid (Sp.shown c sg = [92, 120, Sp.hexB (c / 16), Sp.hexB (c % 16)]) := by show _ = _; unfold Sp.shown; rw [if_neg hn, if_neg ht, if_pos hx]
  have hn' : (c == 10) = false := by simpa using hn
  have ht' : (c == 9) = false := by simpa using ht
  have ha : bits BinOp.and IntKind.u8 c 15 = c % 16 := and_15 h0 h1
  clear h hn ht
  go_enter Tryd.func28, Tryd.ntmps28
  go_wp2_with fail
  all_goals
    refine (ws_any b l _ _ (by exact hh.out) (by omega) (by decide)).mono ?_
    rintro e w1 ⟨rfl, hb1, hu1⟩
    have HB1 : Hid (BdAt w1 b (l ++ [92, 120])) := hb1
    have HU1 : Hid (Below b w w1) := hu1
    clear hb1 hu1
    go_wp2_with fail
    refine (wb_any b (l ++ [92, 120]) _ _ (by exact HB1.out) (by simp; omega)).mono ?_
    rintro e w2 ⟨rfl, hb2, hu2⟩
    have HB2 : Hid (BdAt w2 b (l ++ [92, 120] ++ [Sp.hexB (c / 16)])) := by rw [← hx_at (c := c / 16) (by omega) (show _ < 16 by omega)]; exact hb2
    have HU2 : Hid (Below b w w2) := HU1.out.trans hu2
    clear hb2 hu2
    go_wp2_with fail
    refine (wb_any b (l ++ [92, 120] ++ [Sp.hexB (c / 16)]) _ _ (by exact HB2.out) (by simp; omega)).mono ?_
    rintro e w3 ⟨rfl, hb3, hu3⟩
    have HB3 : Hid (BdAt w3 b (l ++ [92, 120] ++ [Sp.hexB (c / 16)] ++ [Sp.hexB (c % 16)])) := by rw [← hx_at (c := c % 16) (by omega) (show _ < 16 by omega)]; exact hb3
    have HU3 : Hid (Below b w w3) := HU2.out.trans hu3
    clear hb3 hu3
    go_wp2_with fail
    go_end0
    exact ⟨rfl, by rw [HR.out]; simpa using HB3.out, HU3.out⟩

set_option maxHeartbeats 400000 in
theorem prByte_s (b : Nat) (l : List UInt8) (sg : Bool) (c : Int) (w : World) (h : BdAt w b l) (hl : l.length ≤ 10000000) (h0 : 33 ≤ c) (h1 : c ≤ 126) (hs : isSign sg c = true) :
    Calls Tryd.prog 28 #[.pointer (some ⟨b, 0, none⟩), .int .u8 c, .string (sgL sg)] w (PrOut b l (Sp.shown c sg) w) := by
  have hh : Hid (BdAt w b l) := h
  have HR : Hid (Sp.shown c sg = [92, Sp.u8 c]) := by show _ = _; unfold Sp.shown; rw [if_neg (by omega), if_neg (by omega), if_neg (by omega), if_pos (show (if sg = true then Sp.listSign c else Sp.sign c) = true from hs)]
  have hix : 0 ≤ ixOf sg c := by have := ix_is (l := sg) (c := c) (by omega) (by omega); rw [hs] at this; simp at this; omega
  have HC : Hid (((Sp.u8 c).toNat : Int) = c) := by show ((UInt8.ofNat c.toNat).toNat : Int) = c; rw [UInt8.toNat_ofNat']; omega
  clear h hs
  obtain ⟨g, HG⟩ : ∃ g, Hid (g = sgL sg) := ⟨sgL sg, (rfl : sgL sg = sgL sg)⟩
  rw [← HG.out]
  go_enter Tryd.func28, Tryd.ntmps28
  go_wp2_with (go_at_call 42; rw [HG.out]; refine (ix_any sg _ _).mono ?_; rintro e w0 ⟨rfl, n0, rfl⟩)
  refine (wb_any b l 92 _ (by exact hh.out) (by omega)).mono ?_
  rintro e w1 ⟨rfl, hb1, hu1⟩
  have HB1 : Hid (BdAt w1 b (l ++ [92])) := hb1
  have HU1 : Hid (Below b w w1) := ⟨hu1.os, hu1.tape, hu1.output, hu1.size, hu1.block⟩
  clear hb1 hu1
  go_wp2_with fail
  rw [show (Value.int .u8 c) = .int .u8 ((Sp.u8 c).toNat : Int) from int_eq HC.out.symm]
  refine (wb_any b (l ++ [92]) (Sp.u8 c) _ (by exact HB1.out) (by simp; omega)).mono ?_
  rintro e w2 ⟨rfl, hb2, hu2⟩
  go_wp2_with fail
  go_end0
  exact ⟨rfl, by rw [HR.out]; simpa using hb2, HU1.out.trans hu2⟩

set_option maxHeartbeats 400000 in
theorem prByte_b (b : Nat) (l : List UInt8) (sg : Bool) (c : Int) (w : World) (h : BdAt w b l) (hl : l.length ≤ 10000000) (h0 : 33 ≤ c) (h1 : c ≤ 126) (hs : isSign sg c = false) :
    Calls Tryd.prog 28 #[.pointer (some ⟨b, 0, none⟩), .int .u8 c, .string (sgL sg)] w (PrOut b l (Sp.shown c sg) w) := by
  have hh : Hid (BdAt w b l) := h
  have HR : Hid (Sp.shown c sg = [Sp.u8 c]) := by show _ = _; unfold Sp.shown; rw [if_neg (by omega), if_neg (by omega), if_neg (by omega), if_neg (by show ¬ isSign sg c = true; rw [hs]; simp)]
  have hix : ¬ 0 ≤ ixOf sg c := by have := ix_is (l := sg) (c := c) (by omega) (by omega); rw [hs] at this; simp at this; omega
  have HC : Hid (((Sp.u8 c).toNat : Int) = c) := by show ((UInt8.ofNat c.toNat).toNat : Int) = c; rw [UInt8.toNat_ofNat']; omega
  clear h hs
  obtain ⟨g, HG⟩ : ∃ g, Hid (g = sgL sg) := ⟨sgL sg, (rfl : sgL sg = sgL sg)⟩
  rw [← HG.out]
  go_enter Tryd.func28, Tryd.ntmps28
  go_wp2_with (go_at_call 42; rw [HG.out]; refine (ix_any sg _ _).mono ?_; rintro e w0 ⟨rfl, n0, rfl⟩)
  rw [show (Value.int .u8 c) = .int .u8 ((Sp.u8 c).toNat : Int) from int_eq HC.out.symm]
  refine (wb_any b l (Sp.u8 c) _ (by exact hh.out) (by omega)).mono ?_
  rintro e w2 ⟨rfl, hb2, hu2⟩
  have HU1 : Hid (Below b w w2) := ⟨hu2.os, hu2.tape, hu2.output, hu2.size, hu2.block⟩
  go_wp2_with fail
  go_end0
  exact ⟨rfl, by rw [HR.out]; exact hb2, HU1.out⟩

theorem prByte_any (b : Nat) (l : List UInt8) (sg : Bool) (c : Int) (w : World) (h : BdAt w b l) (hl : l.length ≤ 10000000) (h0 : 0 ≤ c) (h1 : c ≤ 255) :
    Calls Tryd.prog 28 #[.pointer (some ⟨b, 0, none⟩), .int .u8 c, .string (sgL sg)] w (PrOut b l (Sp.shown c sg) w) := by
  by_cases hn : c = 10
  · subst hn; exact prByte_n b l sg w h hl
  by_cases ht : c = 9
  · subst ht; exact prByte_t b l sg w h hl
  by_cases hx : c < 33 ∨ 126 < c
  · exact prByte_x b l sg c w h hl h0 h1 hn ht hx
  cases hs : isSign sg c with
  | true => exact prByte_s b l sg c w h hl (by omega) (by omega) hs
  | false => exact prByte_b b l sg c w h hl (by omega) (by omega) hs
end Go.Proofs.YtcpfpnjkfahjcaaDoor
