import Derived.KernelRfl
import Derived.Test.YtcpfpnjkfahjcaaDoorRows
import Derived.WalkKit
import Derived.WalkSpells
import Derived.WalkLawsBesides
import Derived.Deep.QuietTactic
import Derived.BigQuiet
import Derived.Deep.LoopGhost
import Derived.Maps.AppendAt
import Derived.OwnWalk
/- The document's reading of patterns, as plain functions: no program is named here. -/
set_option linter.unusedSimpArgs false
set_option linter.unusedVariables false
namespace Go.Proofs.YtcpfpnjkfahjcaaDoor

/-- What a node of a pattern is: its kind (0 a byte, 1 any byte but 10, 2 a list, 3 a group, 4 a choice, 5 a row), the byte, the bytes of a list, is it turned over; is the group told, its number; its count (least -1: none; most -1: no end). -/
structure Lab where
  kind : Nat
  byte : Nat
  set : Nat → Bool
  not : Bool
  told : Bool
  num : Nat
  min : Int
  max : Int

structure Tr where
  lab : Lab
  kids : List Tr

namespace Sp

def byteAt (s : ByteArray) (i : Nat) : Int := if h : i < s.size then (s[i].toNat : Int) else 0

theorem byteAt_lo (s : ByteArray) (i : Nat) : 0 ≤ byteAt s i := by unfold byteAt; split <;> omega
theorem byteAt_hi (s : ByteArray) (i : Nat) : byteAt s i ≤ 255 := by
  unfold byteAt; split
  · have := s[i].toNat_lt; omega
  · omega
theorem byteAt_in (s : ByteArray) (i : Nat) (h : i < s.size) : byteAt s i = (s[i].toNat : Int) := by unfold byteAt; rw [dif_pos h]

/-- Does this byte stand at this place? -/
def isAt (s : ByteArray) (i : Nat) (c : Int) : Bool := decide (i < s.size) && decide (byteAt s i = c)

def sign (c : Int) : Bool := [92, 40, 41, 91, 93, 123, 125, 42, 43, 63, 124, 46].contains c
def listSign (c : Int) : Bool := sign c || c == 45 || c == 94

def hex (c : Int) : Int := if 48 ≤ c ∧ c ≤ 57 then c - 48 else if 97 ≤ c ∧ c ≤ 102 then c - 87 else if 65 ≤ c ∧ c ≤ 70 then c - 55 else -1

/-- An error and its place. -/
abbrev Fault := Int × Int
abbrev Res (α : Type) := Except Fault α

def hexPair (s : ByteArray) (i : Nat) : Res (Int × Nat) :=
  if i < s.size ∧ 0 ≤ hex (byteAt s i) then
    if i + 1 < s.size ∧ 0 ≤ hex (byteAt s (i + 1)) then .ok (16 * hex (byteAt s i) + hex (byteAt s (i + 1)), i + 2)
    else .error (3, (i + 1 : Nat))
  else .error (3, i)

/-- Behind the backslash. -/
def escape (s : ByteArray) (i : Nat) : Res (Int × Nat) :=
  if i < s.size then
    if byteAt s i = 110 then .ok (10, i + 1)
    else if byteAt s i = 116 then .ok (9, i + 1)
    else if byteAt s i = 120 then hexPair s (i + 1)
    else if listSign (byteAt s i) then .ok (byteAt s i, i + 1)
    else .error (3, i)
  else .error (3, i)

/-- An escape, or a byte that is none of the signs (in a list: of those of lists). -/
def byteBut (l : Bool) (s : ByteArray) (i : Nat) : Res (Int × Nat) :=
  if isAt s i 92 then escape s (i + 1)
  else if i < s.size ∧ (if l then listSign (byteAt s i) else sign (byteAt s i)) = false then .ok (byteAt s i, i + 1)
  else .error (3, i)

def digitAt (s : ByteArray) (i : Nat) : Bool := decide (i < s.size) && decide (48 ≤ byteAt s i) && decide (byteAt s i ≤ 57)

/-- One or two digits: the number and the place behind. -/
def digits (s : ByteArray) (i : Nat) : Int × Nat :=
  if byteAt s i - 48 > 0 ∧ digitAt s (i + 1) then (10 * (byteAt s i - 48) + (byteAt s (i + 1) - 48), i + 2) else (byteAt s i - 48, i + 1)

def number (least : Int) (s : ByteArray) (i : Nat) : Res (Int × Nat) :=
  if digitAt s i then
    if (digits s i).1 > 20 ∨ (digits s i).1 < least then .error (4, i) else .ok (digits s i)
  else .error (3, i)

def need (c : Int) (s : ByteArray) (i : Nat) : Res Nat := if isAt s i c then .ok (i + 1) else .error (3, i)

/-- A count behind its first brace: least, most, the place behind. -/
def bounds (s : ByteArray) (i : Nat) : Res (Int × Int × Nat) :=
  match number 0 s i with
  | .error f => .error f
  | .ok (m, j) =>
    if isAt s j 44 then
      if digitAt s (j + 1) then
        match number m s (j + 1) with
        | .error f => .error f
        | .ok (n, k) => match need 125 s k with
          | .error f => .error f
          | .ok l => .ok (m, n, l)
      else match need 125 s (j + 1) with
        | .error f => .error f
        | .ok l => .ok (m, -1, l)
    else match need 125 s j with
      | .error f => .error f
      | .ok l => .ok (m, m, l)

/-- An item: its ends, the place behind. -/
def item (s : ByteArray) (i : Nat) : Res (Int × Int × Nat) :=
  match byteBut true s i with
  | .error f => .error f
  | .ok (a, j) =>
    if isAt s j 45 then
      match byteBut true s (j + 1) with
      | .error f => .error f
      | .ok (b, k) => if b < a then .error (3, (j + 1 : Nat)) else .ok (a, b, k)
    else .ok (a, a, j)

def add (set : Nat → Bool) (a b : Int) : Nat → Bool := fun c => set c || (decide (a ≤ c) && decide ((c : Int) ≤ b))

/-- Items up to the bracket: the bytes, the place behind. -/
def items (s : ByteArray) : Nat → (Nat → Bool) → Nat → Res ((Nat → Bool) × Nat)
  | 0, _, i => .error (3, i)
  | n + 1, set, i =>
    match item s i with
    | .error f => .error f
    | .ok (a, b, j) => if isAt s j 93 then .ok (add set a b, j + 1) else items s n (add set a b) j

def blank : Lab := { kind := 0, byte := 0, set := fun _ => false, not := false, told := false, num := 0, min := -1, max := 0 }

/-- A list, behind its bracket. -/
def list (s : ByteArray) (i : Nat) : Res (Tr × Nat) :=
  let not := isAt s i 94
  let j := if not then i + 1 else i
  match items s (s.size + 1) (fun _ => false) j with
  | .error f => .error f
  | .ok (set, k) => .ok (⟨{ blank with kind := 2, set := set, not := not }, []⟩, k)

/-- What comes next, if it is a count: least, most, the place behind. -/
def count (s : ByteArray) (i : Nat) : Res (Int × Int × Nat) :=
  if isAt s i 42 then .ok (0, -1, i + 1)
  else if isAt s i 43 then .ok (1, -1, i + 1)
  else if isAt s i 63 then .ok (0, 1, i + 1)
  else if isAt s i 123 then bounds s (i + 1)
  else .ok (-1, 0, i)

/-- Where a reading stands: the place; how many groups that are told have begun. -/
structure At where
  i : Nat
  t : Int

/-- What a group begins with, at its bracket, d groups being open: its number (0: it is not told), and behind it. -/
def head (s : ByteArray) (d : Nat) (x : At) : Res (Nat × At) :=
  if 8 ≤ d then .error (5, x.i)
  else if isAt s (x.i + 1) 63 then
    match need 58 s (x.i + 2) with
    | .error f => .error f
    | .ok j => .ok (0, ⟨j, x.t⟩)
  else if 9 ≤ x.t then .error (6, x.i)
  else .ok ((x.t + 1).toNat, ⟨x.i + 1, x.t + 1⟩)

/-- A group, at its bracket; 'sub' reads a choice within it. -/
def group (sub : At → Res (Tr × At)) (s : ByteArray) (d : Nat) (x : At) : Res (Tr × At) :=
  match head s d x with
  | .error f => .error f
  | .ok (k, y) =>
    match sub y with
    | .error f => .error f
    | .ok (t, z) => match need 41 s z.i with
      | .error f => .error f
      | .ok j => .ok (⟨{ blank with kind := 3, told := decide (k ≠ 0), num := k }, [t]⟩, ⟨j, z.t⟩)

def atom (sub : At → Res (Tr × At)) (s : ByteArray) (d : Nat) (x : At) : Res (Tr × At) :=
  if isAt s x.i 40 then group sub s d x
  else if isAt s x.i 91 then
    match list s (x.i + 1) with
    | .error f => .error f
    | .ok (t, j) => .ok (t, ⟨j, x.t⟩)
  else if isAt s x.i 46 then .ok (⟨{ blank with kind := 1, set := fun c => c == 10, not := true }, []⟩, ⟨x.i + 1, x.t⟩)
  else match byteBut false s x.i with
    | .error f => .error f
    | .ok (b, j) => .ok (⟨{ blank with kind := 0, byte := b.toNat, set := fun c => c == b.toNat }, []⟩, ⟨j, x.t⟩)

/-- An atom with its count. -/
def part (sub : At → Res (Tr × At)) (s : ByteArray) (d : Nat) (x : At) : Res (Tr × At) :=
  match atom sub s d x with
  | .error f => .error f
  | .ok (t, y) => match count s y.i with
    | .error f => .error f
    | .ok (m, n, j) => .ok (⟨{ t.lab with min := m, max := n }, t.kids⟩, ⟨j, y.t⟩)

/-- Is a row over here? -/
def over (s : ByteArray) (i : Nat) : Bool := decide (s.size ≤ i) || isAt s i 124 || isAt s i 41

/-- The parts of a row, those that were read ahead. -/
def parts (sub : At → Res (Tr × At)) (s : ByteArray) (d : Nat) : Nat → List Tr → At → Res (List Tr × At)
  | 0, _, x => .error (3, x.i)
  | n + 1, l, x =>
    if over s x.i then .ok (l, x)
    else match part sub s d x with
      | .error f => .error f
      | .ok (t, y) => parts sub s d n (l ++ [t]) y

def row (sub : At → Res (Tr × At)) (s : ByteArray) (d : Nat) (x : At) : Res (Tr × At) :=
  match parts sub s d (s.size + 1) [] x with
  | .error f => .error f
  | .ok (l, y) => .ok (⟨{ blank with kind := 5 }, l⟩, y)

def rows (sub : At → Res (Tr × At)) (s : ByteArray) (d : Nat) : Nat → List Tr → At → Res (List Tr × At)
  | 0, _, x => .error (3, x.i)
  | n + 1, l, x =>
    match row sub s d x with
    | .error f => .error f
    | .ok (t, y) => if isAt s y.i 124 then rows sub s d n (l ++ [t]) ⟨y.i + 1, y.t⟩ else .ok (l ++ [t], y)

/-- A choice within 9 - k groups. -/
def choice (s : ByteArray) : Nat → At → Res (Tr × At)
  | 0, x => .error (5, x.i)
  | k + 1, x =>
    match rows (choice s k) s (8 - k) (s.size + 1) [] x with
    | .error f => .error f
    | .ok (l, y) => .ok (⟨{ blank with kind := 4 }, l⟩, y)

end Sp
end Go.Proofs.YtcpfpnjkfahjcaaDoor

/- What the proofs of all functions share. -/
set_option linter.unusedSimpArgs false
set_option linter.unusedVariables false
namespace Go.Proofs.YtcpfpnjkfahjcaaDoor
open Go.RowKit

theorem tup2 {a b c d : Value} (h : a = c) (k : b = d) : Ending.returned (.tuple #[a, b]) = .returned (.tuple #[c, d]) := by rw [h, k]
theorem int_eq {k : IntKind} {a b : Int} (h : a = b) : Value.int k a = .int k b := by rw [h]
theorem bool_eq {a b : Bool} (h : a = b) : Value.bool a = .bool b := by rw [h]
theorem ret_bool {a b : Bool} (h : a = b) : Ending.returned (.bool a) = .returned (.bool b) := by rw [h]
theorem ret_int {k : IntKind} {a b : Int} (h : a = b) : Ending.returned (.int k a) = .returned (.int k b) := by rw [h]

/-- Of the blocks of w none has turned but those of l; none has gone. -/
structure Upd (l : List Nat) (w w' : World) : Prop where
  os : w'.os = w.os
  tape : w'.tape = w.tape
  output : w'.output = w.output
  size : w.heap.size ≤ w'.heap.size
  block : ∀ k, k < w.heap.size → k ∉ l → w'.heap[k]? = w.heap[k]?

theorem Upd.refl (l : List Nat) (w : World) : Upd l w w := ⟨rfl, rfl, rfl, Nat.le_refl _, fun _ _ _ => rfl⟩
theorem Upd.trans {l : List Nat} {a b c : World} (h : Upd l a b) (k : Upd l b c) : Upd l a c :=
  ⟨k.os.trans h.os, k.tape.trans h.tape, k.output.trans h.output, Nat.le_trans h.size k.size, fun i hi hn => (k.block i (Nat.lt_of_lt_of_le hi h.size) hn).trans (h.block i hi hn)⟩
theorem Upd.drew {l : List Nat} {a w : World} (h : Upd l a w) : Upd l a w.drew := ⟨h.os, h.tape, h.output, h.size, h.block⟩
theorem Upd.setCell {l : List Nat} {a w : World} (h : Upd l a w) {p : Addr} (hp : p.block ∈ l) (u : Value) : Upd l a (w.setCell p u) :=
  h.trans ⟨rfl, rfl, rfl, by simp [World.setCell], fun k _ hn => Below.heap_setCell _ _ _ _ (fun e => hn (e ▸ hp))⟩
theorem Upd.alloc {l : List Nat} {a w : World} (h : Upd l a w) (o : Obj) : Upd l a (w.alloc o) :=
  h.trans ⟨rfl, rfl, rfl, by simp, fun k hk _ => Below.heap_alloc _ _ _ hk⟩

structure RS where
  i : Nat
  e : Int
  a : Int
  d : Int
  t : Int

/-- Behind a byte that may have been passed. -/
def RS.adv (x : RS) (b : Bool) : RS := if b then { x with i := x.i + 1 } else x
/-- A store into a block of cells that is not marked. -/
theorem heap_set {w : World} {r : Nat} {c : Array Value} {T : TypeId} (h : w.heap[r]? = some (.cells c T (0, 0))) (o : Nat) (v : Value) :
    (w.setCell ⟨r, o, none⟩ v).heap[r]? = some (.cells (c.setIfInBounds o v) T (0, 0)) := by
  simp [World.setCell, Array.getElem?_modify, h]

theorem drewN_upd (l : List Nat) (w : World) (n : Nat) : Upd l w (w.drewN n) := ⟨rfl, rfl, rfl, Nat.le_refl _, fun _ _ _ => rfl⟩

theorem hex_lo (c : Int) : -1 ≤ Sp.hex c := by unfold Sp.hex; (repeat' split) <;> omega
theorem hex_hi (c : Int) : Sp.hex c ≤ 15 := by unfold Sp.hex; (repeat' split) <;> omega
theorem Upd.pre {l : List Nat} {a b : World} {n : Nat} (h : Upd l (a.drewN n) b) : Upd l a b := ⟨h.os, h.tape, h.output, h.size, h.block⟩
theorem Upd.drewN {l : List Nat} {a b : World} (h : Upd l a b) {n : Nat} : Upd l a (b.drewN n) := ⟨h.os, h.tape, h.output, h.size, h.block⟩
theorem isAt_ok {s : ByteArray} {i : Nat} {c : Int} (hi : i < s.size) : Sp.isAt s i c = decide (Sp.byteAt s i = c) := by simp [Sp.isAt, hi]
theorem isAt_out {s : ByteArray} {i : Nat} {c : Int} (hi : ¬ i < s.size) : Sp.isAt s i c = false := by simp [Sp.isAt, hi]

theorem lt_of_heap {w : World} {r : Nat} {o : Obj} (h : w.heap[r]? = some o) : r < w.heap.size := by
  rcases Nat.lt_or_ge r w.heap.size with h1 | h1
  · exact h1
  · rw [Array.getElem?_eq_none h1] at h; cases h
theorem Upd.mono {l l' : List Nat} {w w' : World} (h : Upd l w w') (hl : ∀ k, k ∈ l → k ∈ l') : Upd l' w w' :=
  ⟨h.os, h.tape, h.output, h.size, fun k hk hn => h.block k hk (fun q => hn (hl k q))⟩
theorem Upd.one {r p : Nat} {w w' : World} (h : Upd [r] w w') : Upd [r, p] w w' := h.mono (by simp)

def ptr (p : Nat) : Value := .pointer (some ⟨p, 0, none⟩)

theorem ownsRow_same {w w' : World} {base : Nat} {e : TypeId} {size : Nat} {v : Value} {n : Nat} {xs : List Value} (h : w.ownsRow base e size v n xs) (hb : ∀ g, v.ownBlock = some g → g < w.heap.size → w'.heap[g]? = w.heap[g]?) : w'.ownsRow base e size v n xs := by
  obtain ⟨h1, h2⟩ := h
  refine ⟨h1, ?_⟩
  rcases h2 with h2 | ⟨g, cap, cur, hv, hg, hh, q⟩
  · exact Or.inl h2
  · exact Or.inr ⟨g, cap, cur, hv, hg, by rw [hb g (by rw [hv]; rfl) (lt_of_heap hh)]; exact hh, q⟩

theorem ownBlock_lt {w : World} {base : Nat} {e : TypeId} {size : Nat} {v : Value} {n : Nat} {xs : List Value} (h : w.ownsRow base e size v n xs) {g : Nat} (hg : v.ownBlock = some g) : g < w.heap.size ∧ base ≤ g := by
  rcases h.2 with ⟨q, _⟩ | ⟨g', cap, cur, hv, hb, hh, _⟩
  · rw [q] at hg; cases hg
  · rw [hv] at hg; cases hg; exact ⟨lt_of_heap hh, hb⟩

/-- A block that is new is nobody's. -/
theorem Upd.hide {l : List Nat} {a b c : World} {q : Nat} (h : Upd l a b) (k : Upd (q :: l) b c) (hq : a.heap.size ≤ q) : Upd l a c :=
  ⟨k.os.trans h.os, k.tape.trans h.tape, k.output.trans h.output, Nat.le_trans h.size k.size, fun i hi hn => (k.block i (Nat.lt_of_lt_of_le hi h.size) (by simp; exact ⟨by omega, hn⟩)).trans (h.block i hi hn)⟩
theorem Upd.swap {a b : Nat} {w w' : World} (h : Upd [a, b] w w') : Upd [b, a] w w' := h.mono (by simp)

def after (s : ByteArray) (n : Nat) (set : Nat → Bool) (i : Nat) : Sp.Res ((Nat → Bool) × Nat) := if Sp.isAt s i 93 then .ok (set, i + 1) else Sp.items s n set i
theorem items_succ (s : ByteArray) (n : Nat) (set : Nat → Bool) (i : Nat) : Sp.items s (n + 1) set i = match Sp.item s i with | .error f => .error f | .ok (a, b, j) => after s n (Sp.add set a b) j := rfl

def listR (s : ByteArray) (x : RS) : Sp.Res (Tr × Sp.At) := match Sp.list s x.i with | .error f => .error f | .ok (t, j) => .ok (t, ⟨j, x.t⟩)

theorem hexPair_err {s : ByteArray} {i : Nat} {e a : Int} (h : Sp.hexPair s i = .error (e, a)) : e = 3 := by
  unfold Sp.hexPair at h; split at h
  · split at h
    · cases h
    · cases h; rfl
  · cases h; rfl
theorem escape_err {s : ByteArray} {i : Nat} {e a : Int} (h : Sp.escape s i = .error (e, a)) : e = 3 := by
  unfold Sp.escape at h; repeat' split at h
  all_goals first | cases h; done | exact hexPair_err h | (cases h; rfl)
theorem byteBut_err {l : Bool} {s : ByteArray} {i : Nat} {e a : Int} (h : Sp.byteBut l s i = .error (e, a)) : e = 3 := by
  unfold Sp.byteBut at h; split at h
  · exact escape_err h
  · by_cases q : i < s.size ∧ (if l then Sp.listSign (Sp.byteAt s i) else Sp.sign (Sp.byteAt s i)) = false
    · rw [if_pos q] at h; cases h
    · rw [if_neg q] at h; cases h; rfl
theorem hex_in {c : Int} (h : 0 ≤ Sp.hex c) : Sp.hex c ≤ 15 := by unfold Sp.hex at *; (repeat' split at h) <;> (repeat' split) <;> omega
theorem hexPair_ok {s : ByteArray} {i j : Nat} {v : Int} (h : Sp.hexPair s i = .ok (v, j)) : 0 ≤ v ∧ v ≤ 255 ∧ i < j ∧ j ≤ s.size := by
  unfold Sp.hexPair at h; split at h
  · rename_i q
    split at h
    · rename_i q'
      cases h
      have := hex_in q.2; have := hex_in q'.2
      exact ⟨by omega, by omega, by omega, by omega⟩
    · cases h
  · cases h
theorem escape_ok {s : ByteArray} {i j : Nat} {v : Int} (h : Sp.escape s i = .ok (v, j)) : 0 ≤ v ∧ v ≤ 255 ∧ i < j ∧ j ≤ s.size := by
  have b0 := Sp.byteAt_lo s i
  have b1 := Sp.byteAt_hi s i
  unfold Sp.escape at h; repeat' split at h
  case isTrue.isFalse.isFalse.isTrue => have := hexPair_ok h; omega
  all_goals cases h
  all_goals exact ⟨by omega, by omega, by omega, by omega⟩
theorem byteBut_ok {l : Bool} {s : ByteArray} {i j : Nat} {v : Int} (h : Sp.byteBut l s i = .ok (v, j)) : 0 ≤ v ∧ v ≤ 255 ∧ i < j ∧ j ≤ s.size := by
  have b0 := Sp.byteAt_lo s i
  have b1 := Sp.byteAt_hi s i
  unfold Sp.byteBut at h; split at h
  · have := escape_ok h; omega
  · by_cases q : i < s.size ∧ (if l then Sp.listSign (Sp.byteAt s i) else Sp.sign (Sp.byteAt s i)) = false
    · rw [if_pos q] at h; cases h; exact ⟨by omega, by omega, by omega, by omega⟩
    · rw [if_neg q] at h; cases h

def bLab (v : Int) : Lab := { Sp.blank with kind := 0, byte := v.toNat, set := fun c => c == v.toNat }
theorem Upd.shrink {r : Nat} {l : List Nat} {a b c : World} (h : Upd [r] a b) (k : Upd l b c) (hl : ∀ q, q ∈ l → q = r ∨ a.heap.size ≤ q) : Upd [r] a c :=
  ⟨k.os.trans h.os, k.tape.trans h.tape, k.output.trans h.output, Nat.le_trans h.size k.size, fun i hi hn => (k.block i (Nat.lt_of_lt_of_le hi h.size) (fun q => by rcases hl i q with e | e; simp [e] at hn; omega)).trans (h.block i hi hn)⟩
theorem Upd.of_grown {w w' : World} {row : Option Nat} (h : w.grownBy w' row) : Upd row.toList w w' :=
  ⟨h.os, h.tape, h.output, h.size, fun k hk hn => h.block k hk (fun e => hn (by rw [← e]; simp))⟩

theorem own_form {w : World} {b : Nat} {e : TypeId} {v : Value} {n : Nat} {xs : List Value} (h : w.ownsRow b e 1 v (n + 1) xs) : ∃ g cap, v = .slice (some ⟨g, 0, none⟩) (n + 1) cap := by
  rcases h.2 with ⟨_, q⟩ | ⟨g, cap, _, hv, _⟩
  · omega
  · exact ⟨g, cap, hv⟩

def rLab : Lab := { Sp.blank with kind := 5 }
def cLab : Lab := { Sp.blank with kind := 4 }

theorem own_cells {w : World} {b : Nat} {e : TypeId} {v : Value} {qs : List Nat} (h : w.ownsRow b e 1 v qs.length (qs.map ptr)) : (v = .slice none 0 0 ∧ qs = []) ∨ ∃ g cap, v = .slice (some ⟨g, 0, none⟩) qs.length cap ∧ qs.length ≤ cap ∧ cap ≤ maxLen ∧ ∀ i q, qs[i]? = some q → w.cell? ⟨g, i, none⟩ = some (ptr q) := by
  rcases h.2 with ⟨h1, h2⟩ | ⟨g, cap, cur, hv, hb, hh, hn, hc, hs, ht⟩
  · exact Or.inl ⟨h1, List.eq_nil_of_length_eq_zero h2⟩
  · refine Or.inr ⟨g, cap, hv, hn, hc, fun i q hq => ?_⟩
    have hi : i < qs.length := by
      rcases Nat.lt_or_ge i qs.length with h | h
      · exact h
      · rw [List.getElem?_eq_none h] at hq; cases hq
    simp only [World.cell?, hh]
    have : (cur.toList.take (qs.length * 1))[i]? = some (ptr q) := by rw [ht]; simp [hq]
    rw [List.getElem?_take] at this
    simp [hi] at this
    simpa using this

/-- No node has many kids. -/
def Few : List Tr → Prop
  | [] => True
  | ⟨_, ks⟩ :: r => ks.length ≤ 1000 ∧ Few ks ∧ Few r

end Go.Proofs.YtcpfpnjkfahjcaaDoor
