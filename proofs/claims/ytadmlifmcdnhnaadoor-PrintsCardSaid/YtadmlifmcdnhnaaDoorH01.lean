import Derived.KernelRfl
import Derived.Test.YtadmlifmcdnhnaaDoorRows
import Derived.WalkKit
import Derived.WalkSpells
import Derived.WalkLawsBesides
import Derived.Deep.QuietTactic
import Derived.BigQuiet
/- The document's reading of patterns, as plain functions: no program is named here. -/
set_option linter.unusedSimpArgs false
set_option linter.unusedVariables false
namespace Go.Proofs.YtadmlifmcdnhnaaDoor

/-- What a node of a pattern is: its kind (0 a byte, 1 any byte but 10, 2 a list, 3 a group, 4 a choice, 5 a row), the byte, the bytes of a list, is it turned over; is the group told, its number; its count (least -1: none; most -1: no end). -/
structure Lab where
  kind : Nat
  byte : Nat
  set : Nat → Bool
  not : Bool
  told : Bool
  num : Nat
  min : Int
  max : Int

structure Tr where
  lab : Lab
  kids : List Tr

namespace Sp

def byteAt (s : ByteArray) (i : Nat) : Int := if h : i < s.size then (s[i].toNat : Int) else 0

theorem byteAt_lo (s : ByteArray) (i : Nat) : 0 ≤ byteAt s i := by unfold byteAt; split <;> omega
theorem byteAt_hi (s : ByteArray) (i : Nat) : byteAt s i ≤ 255 := by
  unfold byteAt; split
  · have := s[i].toNat_lt; omega
  · omega
theorem byteAt_in (s : ByteArray) (i : Nat) (h : i < s.size) : byteAt s i = (s[i].toNat : Int) := by unfold byteAt; rw [dif_pos h]

/-- Does this byte stand at this place? -/
def isAt (s : ByteArray) (i : Nat) (c : Int) : Bool := decide (i < s.size) && decide (byteAt s i = c)

def sign (c : Int) : Bool := [92, 40, 41, 91, 93, 123, 125, 42, 43, 63, 124, 46].contains c
def listSign (c : Int) : Bool := sign c || c == 45 || c == 94

def hex (c : Int) : Int := if 48 ≤ c ∧ c ≤ 57 then c - 48 else if 97 ≤ c ∧ c ≤ 102 then c - 87 else if 65 ≤ c ∧ c ≤ 70 then c - 55 else -1

/-- An error and its place. -/
abbrev Fault := Int × Int
abbrev Res (α : Type) := Except Fault α

def hexPair (s : ByteArray) (i : Nat) : Res (Int × Nat) :=
  if i < s.size ∧ 0 ≤ hex (byteAt s i) then
    if i + 1 < s.size ∧ 0 ≤ hex (byteAt s (i + 1)) then .ok (16 * hex (byteAt s i) + hex (byteAt s (i + 1)), i + 2)
    else .error (3, (i + 1 : Nat))
  else .error (3, i)

/-- Behind the backslash. -/
def escape (s : ByteArray) (i : Nat) : Res (Int × Nat) :=
  if i < s.size then
    if byteAt s i = 110 then .ok (10, i + 1)
    else if byteAt s i = 116 then .ok (9, i + 1)
    else if byteAt s i = 120 then hexPair s (i + 1)
    else if listSign (byteAt s i) then .ok (byteAt s i, i + 1)
    else .error (3, i)
  else .error (3, i)

/-- An escape, or a byte that is none of the signs (in a list: of those of lists). -/
def byteBut (l : Bool) (s : ByteArray) (i : Nat) : Res (Int × Nat) :=
  if isAt s i 92 then escape s (i + 1)
  else if i < s.size ∧ (if l then listSign (byteAt s i) else sign (byteAt s i)) = false then .ok (byteAt s i, i + 1)
  else .error (3, i)

def digitAt (s : ByteArray) (i : Nat) : Bool := decide (i < s.size) && decide (48 ≤ byteAt s i) && decide (byteAt s i ≤ 57)

/-- One or two digits: the number and the place behind. -/
def digits (s : ByteArray) (i : Nat) : Int × Nat :=
  if byteAt s i - 48 > 0 ∧ digitAt s (i + 1) then (10 * (byteAt s i - 48) + (byteAt s (i + 1) - 48), i + 2) else (byteAt s i - 48, i + 1)

def number (least : Int) (s : ByteArray) (i : Nat) : Res (Int × Nat) :=
  if digitAt s i then
    if (digits s i).1 > 20 ∨ (digits s i).1 < least then .error (4, i) else .ok (digits s i)
  else .error (3, i)

def need (c : Int) (s : ByteArray) (i : Nat) : Res Nat := if isAt s i c then .ok (i + 1) else .error (3, i)

/-- A count behind its first brace: least, most, the place behind. -/
def bounds (s : ByteArray) (i : Nat) : Res (Int × Int × Nat) :=
  match number 0 s i with
  | .error f => .error f
  | .ok (m, j) =>
    if isAt s j 44 then
      if digitAt s (j + 1) then
        match number m s (j + 1) with
        | .error f => .error f
        | .ok (n, k) => match need 125 s k with
          | .error f => .error f
          | .ok l => .ok (m, n, l)
      else match need 125 s (j + 1) with
        | .error f => .error f
        | .ok l => .ok (m, -1, l)
    else match need 125 s j with
      | .error f => .error f
      | .ok l => .ok (m, m, l)

/-- An item: its ends, the place behind. -/
def item (s : ByteArray) (i : Nat) : Res (Int × Int × Nat) :=
  match byteBut true s i with
  | .error f => .error f
  | .ok (a, j) =>
    if isAt s j 45 then
      match byteBut true s (j + 1) with
      | .error f => .error f
      | .ok (b, k) => if b < a then .error (3, (j + 1 : Nat)) else .ok (a, b, k)
    else .ok (a, a, j)

def add (set : Nat → Bool) (a b : Int) : Nat → Bool := fun c => set c || (decide (a ≤ c) && decide ((c : Int) ≤ b))

/-- Items up to the bracket: the bytes, the place behind. -/
def items (s : ByteArray) : Nat → (Nat → Bool) → Nat → Res ((Nat → Bool) × Nat)
  | 0, _, i => .error (3, i)
  | n + 1, set, i =>
    match item s i with
    | .error f => .error f
    | .ok (a, b, j) => if isAt s j 93 then .ok (add set a b, j + 1) else items s n (add set a b) j

def blank : Lab := { kind := 0, byte := 0, set := fun _ => false, not := false, told := false, num := 0, min := -1, max := 0 }

/-- A list, behind its bracket. -/
def list (s : ByteArray) (i : Nat) : Res (Tr × Nat) :=
  let not := isAt s i 94
  let j := if not then i + 1 else i
  match items s (s.size + 1) (fun _ => false) j with
  | .error f => .error f
  | .ok (set, k) => .ok (⟨{ blank with kind := 2, set := set, not := not }, []⟩, k)

/-- What comes next, if it is a count: least, most, the place behind. -/
def count (s : ByteArray) (i : Nat) : Res (Int × Int × Nat) :=
  if isAt s i 42 then .ok (0, -1, i + 1)
  else if isAt s i 43 then .ok (1, -1, i + 1)
  else if isAt s i 63 then .ok (0, 1, i + 1)
  else if isAt s i 123 then bounds s (i + 1)
  else .ok (-1, 0, i)

/-- Where a reading stands: the place; how many groups that are told have begun. -/
structure At where
  i : Nat
  t : Int

/-- What a group begins with, at its bracket, d groups being open: its number (0: it is not told), and behind it. -/
def head (s : ByteArray) (d : Nat) (x : At) : Res (Nat × At) :=
  if 8 ≤ d then .error (5, x.i)
  else if isAt s (x.i + 1) 63 then
    match need 58 s (x.i + 2) with
    | .error f => .error f
    | .ok j => .ok (0, ⟨j, x.t⟩)
  else if 9 ≤ x.t then .error (6, x.i)
  else .ok ((x.t + 1).toNat, ⟨x.i + 1, x.t + 1⟩)

/-- A group, at its bracket; 'sub' reads a choice within it. -/
def group (sub : At → Res (Tr × At)) (s : ByteArray) (d : Nat) (x : At) : Res (Tr × At) :=
  match head s d x with
  | .error f => .error f
  | .ok (k, y) =>
    match sub y with
    | .error f => .error f
    | .ok (t, z) => match need 41 s z.i with
      | .error f => .error f
      | .ok j => .ok (⟨{ blank with kind := 3, told := decide (k ≠ 0), num := k }, [t]⟩, ⟨j, z.t⟩)

def atom (sub : At → Res (Tr × At)) (s : ByteArray) (d : Nat) (x : At) : Res (Tr × At) :=
  if isAt s x.i 40 then group sub s d x
  else if isAt s x.i 91 then
    match list s (x.i + 1) with
    | .error f => .error f
    | .ok (t, j) => .ok (t, ⟨j, x.t⟩)
  else if isAt s x.i 46 then .ok (⟨{ blank with kind := 1, set := fun c => c == 10, not := true }, []⟩, ⟨x.i + 1, x.t⟩)
  else match byteBut false s x.i with
    | .error f => .error f
    | .ok (b, j) => .ok (⟨{ blank with kind := 0, byte := b.toNat, set := fun c => c == b.toNat }, []⟩, ⟨j, x.t⟩)

/-- An atom with its count. -/
def part (sub : At → Res (Tr × At)) (s : ByteArray) (d : Nat) (x : At) : Res (Tr × At) :=
  match atom sub s d x with
  | .error f => .error f
  | .ok (t, y) => match count s y.i with
    | .error f => .error f
    | .ok (m, n, j) => .ok (⟨{ t.lab with min := m, max := n }, t.kids⟩, ⟨j, y.t⟩)

/-- Is a row over here? -/
def over (s : ByteArray) (i : Nat) : Bool := decide (s.size ≤ i) || isAt s i 124 || isAt s i 41

/-- The parts of a row, those that were read ahead. -/
def parts (sub : At → Res (Tr × At)) (s : ByteArray) (d : Nat) : Nat → List Tr → At → Res (List Tr × At)
  | 0, _, x => .error (3, x.i)
  | n + 1, l, x =>
    if over s x.i then .ok (l, x)
    else match part sub s d x with
      | .error f => .error f
      | .ok (t, y) => parts sub s d n (l ++ [t]) y

def row (sub : At → Res (Tr × At)) (s : ByteArray) (d : Nat) (x : At) : Res (Tr × At) :=
  match parts sub s d (s.size + 1) [] x with
  | .error f => .error f
  | .ok (l, y) => .ok (⟨{ blank with kind := 5 }, l⟩, y)

def rows (sub : At → Res (Tr × At)) (s : ByteArray) (d : Nat) : Nat → List Tr → At → Res (List Tr × At)
  | 0, _, x => .error (3, x.i)
  | n + 1, l, x =>
    match row sub s d x with
    | .error f => .error f
    | .ok (t, y) => if isAt s y.i 124 then rows sub s d n (l ++ [t]) ⟨y.i + 1, y.t⟩ else .ok (l ++ [t], y)

/-- A choice within 9 - k groups. -/
def choice (s : ByteArray) : Nat → At → Res (Tr × At)
  | 0, x => .error (5, x.i)
  | k + 1, x =>
    match rows (choice s k) s (8 - k) (s.size + 1) [] x with
    | .error f => .error f
    | .ok (l, y) => .ok (⟨{ blank with kind := 4 }, l⟩, y)

end Sp
end Go.Proofs.YtadmlifmcdnhnaaDoor

set_option linter.unusedSimpArgs false
set_option linter.unusedVariables false
namespace Go.Proofs.YtadmlifmcdnhnaaDoor
open Go.RowKit

theorem tup2 {a b c d : Value} (h : a = c) (k : b = d) : Ending.returned (.tuple #[a, b]) = .returned (.tuple #[c, d]) := by rw [h, k]
theorem int_eq {k : IntKind} {a b : Int} (h : a = b) : Value.int k a = .int k b := by rw [h]
theorem bool_eq {a b : Bool} (h : a = b) : Value.bool a = .bool b := by rw [h]
theorem ret_bool {a b : Bool} (h : a = b) : Ending.returned (.bool a) = .returned (.bool b) := by rw [h]
theorem ret_int {k : IntKind} {a b : Int} (h : a = b) : Ending.returned (.int k a) = .returned (.int k b) := by rw [h]

/-- Of the blocks of w none has turned but those of l; none has gone. -/
structure Upd (l : List Nat) (w w' : World) : Prop where
  os : w'.os = w.os
  tape : w'.tape = w.tape
  output : w'.output = w.output
  size : w.heap.size ≤ w'.heap.size
  block : ∀ k, k < w.heap.size → k ∉ l → w'.heap[k]? = w.heap[k]?

theorem Upd.refl (l : List Nat) (w : World) : Upd l w w := ⟨rfl, rfl, rfl, Nat.le_refl _, fun _ _ _ => rfl⟩
theorem Upd.trans {l : List Nat} {a b c : World} (h : Upd l a b) (k : Upd l b c) : Upd l a c :=
  ⟨k.os.trans h.os, k.tape.trans h.tape, k.output.trans h.output, Nat.le_trans h.size k.size, fun i hi hn => (k.block i (Nat.lt_of_lt_of_le hi h.size) hn).trans (h.block i hi hn)⟩
theorem Upd.drew {l : List Nat} {a w : World} (h : Upd l a w) : Upd l a w.drew := ⟨h.os, h.tape, h.output, h.size, h.block⟩
theorem Upd.setCell {l : List Nat} {a w : World} (h : Upd l a w) {p : Addr} (hp : p.block ∈ l) (u : Value) : Upd l a (w.setCell p u) :=
  h.trans ⟨rfl, rfl, rfl, by simp [World.setCell], fun k _ hn => Below.heap_setCell _ _ _ _ (fun e => hn (e ▸ hp))⟩
theorem Upd.alloc {l : List Nat} {a w : World} (h : Upd l a w) (o : Obj) : Upd l a (w.alloc o) :=
  h.trans ⟨rfl, rfl, rfl, by simp, fun k hk _ => Below.heap_alloc _ _ _ hk⟩

set_option maxHeartbeats 400000 in
theorem hex_any (c : Int) (w : World) (h0 : 0 ≤ c) (h1 : c ≤ 255) :
    Calls Tryd.prog 70 #[.int .u8 c] w fun e w' => e = .returned (.int .i64 (Sp.hex c)) ∧ w' = w := by
  go_enter Tryd.func70, Tryd.ntmps70
  go_wp2
  all_goals
    go_ret
    exact ⟨ret_int (by unfold Sp.hex; (repeat' split) <;> omega), rfl⟩

structure RS where
  i : Nat
  e : Int
  a : Int
  d : Int
  t : Int

/-- Behind a fault: the first one stays. -/
def RS.fail (x : RS) (e a : Int) : RS := if x.e = 0 then { x with e := e, a := a } else x
/-- Behind a byte that may have been passed. -/
def RS.adv (x : RS) (b : Bool) : RS := if b then { x with i := x.i + 1 } else x
theorem RS.fail_ok {x : RS} (h : x.e = 0) (e a : Int) : x.fail e a = { x with e := e, a := a } := if_pos h
theorem RS.fail_no {x : RS} (h : x.e ≠ 0) (e a : Int) : x.fail e a = x := if_neg h

def rdCells (s : ByteArray) (x : RS) : Array Value := #[.string s, .int .i64 x.i, .int .i64 x.e, .int .i64 x.a, .int .i64 x.d, .int .i64 x.t, .slice none 0 0, .slice none 0 0]

def RdAt (w : World) (r : Nat) (s : ByteArray) (x : RS) : Prop := w.heap[r]? = some (.cells (rdCells s x) 47 (0, 0))

structure RdFacts (w : World) (r : Nat) (s : ByteArray) (x : RS) : Prop where
  c0 : w.cell? ⟨r, 0, none⟩ = some (.string s)
  c1 : w.cell? ⟨r, 1, none⟩ = some (.int .i64 x.i)
  c2 : w.cell? ⟨r, 2, none⟩ = some (.int .i64 x.e)
  c3 : w.cell? ⟨r, 3, none⟩ = some (.int .i64 x.a)
  c4 : w.cell? ⟨r, 4, none⟩ = some (.int .i64 x.d)
  c5 : w.cell? ⟨r, 5, none⟩ = some (.int .i64 x.t)
  fz : ∀ o, w.frozen? ⟨r, o, none⟩ = false

theorem RdAt.facts {w : World} {r : Nat} {s : ByteArray} {x : RS} (h : RdAt w r s x) : RdFacts w r s x := by
  unfold RdAt rdCells at h
  refine ⟨?_, ?_, ?_, ?_, ?_, ?_, ?_⟩ <;> (try intro o) <;> simp [World.cell?, World.frozen?, h]

theorem RdAt.upd {l : List Nat} {w w' : World} {r : Nat} {s : ByteArray} {x : RS} (h : RdAt w r s x) (u : Upd l w w') (hr : r ∉ l) : RdAt w' r s x := by
  unfold RdAt at *
  rw [u.block r ?_ hr]; exact h
  rcases Nat.lt_or_ge r w.heap.size with h1 | h1
  · exact h1
  · rw [Array.getElem?_eq_none h1] at h; cases h

/-- A store into a block of cells that is not marked. -/
theorem heap_set {w : World} {r : Nat} {c : Array Value} {T : TypeId} (h : w.heap[r]? = some (.cells c T (0, 0))) (o : Nat) (v : Value) :
    (w.setCell ⟨r, o, none⟩ v).heap[r]? = some (.cells (c.setIfInBounds o v) T (0, 0)) := by
  simp [World.setCell, Array.getElem?_modify, h]

theorem RdAt.set1 {w : World} {r : Nat} {s : ByteArray} {x : RS} (h : RdAt w r s x) (v : Nat) : RdAt (w.setCell ⟨r, 1, none⟩ (.int .i64 v)) r s { x with i := v } := heap_set h 1 _
theorem RdAt.set2 {w : World} {r : Nat} {s : ByteArray} {x : RS} (h : RdAt w r s x) (v : Int) : RdAt (w.setCell ⟨r, 2, none⟩ (.int .i64 v)) r s { x with e := v } := heap_set h 2 _
theorem RdAt.set3 {w : World} {r : Nat} {s : ByteArray} {x : RS} (h : RdAt w r s x) (v : Int) : RdAt (w.setCell ⟨r, 3, none⟩ (.int .i64 v)) r s { x with a := v } := heap_set h 3 _
theorem RdAt.set4 {w : World} {r : Nat} {s : ByteArray} {x : RS} (h : RdAt w r s x) (v : Int) : RdAt (w.setCell ⟨r, 4, none⟩ (.int .i64 v)) r s { x with d := v } := heap_set h 4 _
theorem RdAt.set5 {w : World} {r : Nat} {s : ByteArray} {x : RS} (h : RdAt w r s x) (v : Int) : RdAt (w.setCell ⟨r, 5, none⟩ (.int .i64 v)) r s { x with t := v } := heap_set h 5 _

set_option maxHeartbeats 400000 in
theorem fail_any (r : Nat) (s : ByteArray) (x : RS) (e at' : Int) (w : World) (h : RdAt w r s x) :
    Calls Tryd.prog 18 #[.pointer (some ⟨r, 0, none⟩), .int .i64 e, .int .i64 at'] w fun k w' => k = .returned (.tuple #[]) ∧ Upd [r] w w' ∧ RdAt w' r s (x.fail e at') := by
  obtain ⟨c0, c1, c2, c3, c4, c5, fz⟩ := h.facts
  have hh : Hid (RdAt w r s x) := h
  clear h
  by_cases he : x.e = 0
  · have hb : (x.e == 0) = true := by simp [he]
    go_enter Tryd.func18, Tryd.ntmps18
    go_wp2
    go_end0
    exact ⟨rfl, ((Upd.refl _ _).setCell (by simp) _).setCell (by simp) _, by rw [RS.fail_ok he]; exact (hh.out.set2 e).set3 at'⟩
  · have hb : (x.e == 0) = false := by simp [he]
    go_enter Tryd.func18, Tryd.ntmps18
    go_wp2
    go_end0
    exact ⟨rfl, Upd.refl _ _, by rw [RS.fail_no he]; exact hh.out⟩

theorem drewN_upd (l : List Nat) (w : World) (n : Nat) : Upd l w (w.drewN n) := ⟨rfl, rfl, rfl, Nat.le_refl _, fun _ _ _ => rfl⟩

/-- The byte at hand, as the document's reader sees it. -/
def atB (s : ByteArray) (x : RS) : Bool := decide (x.e = 0) && decide (x.i < s.size)
def atV (s : ByteArray) (x : RS) : Int := if atB s x then Sp.byteAt s x.i else 0

set_option maxHeartbeats 400000 in
theorem at_any (r : Nat) (s : ByteArray) (x : RS) (w : World) (h : RdAt w r s x) (_hs : s.size ≤ 200) :
    Calls Tryd.prog 50 #[.pointer (some ⟨r, 0, none⟩)] w fun k w' => k = .returned (.tuple #[.int .u8 (atV s x), .bool (atB s x)]) ∧ ∃ n, w' = w.drewN n := by
  obtain ⟨c0, c1, c2, c3, c4, c5, fz⟩ := h.facts
  clear h
  by_cases he : x.e = 0
  · have hb : (x.e != 0) = false := by simp [he]
    by_cases hi : x.i < s.size
    · have hd : decide ((s.size : Int) ≤ x.i) = false := by simp; omega
      go_enter Tryd.func50, Tryd.ntmps50
      go_wp2
      go_quiet (fail)
      go_wp2
      go_quiet (fail)
      go_wp2
      go_ret2
      exact ⟨tup2 (int_eq (by simp [atV, atB, he, hi, Sp.byteAt_in])) (bool_eq (by simp [atB, he, hi])), _, World.drewN_drewN _ _ _⟩
    · have hd : decide ((s.size : Int) ≤ x.i) = true := by simp; omega
      go_enter Tryd.func50, Tryd.ntmps50
      go_wp2
      go_quiet (fail)
      go_wp2
      go_ret2
      exact ⟨tup2 (int_eq (by simp [atV, atB, hi])) (bool_eq (by simp [atB, hi])), _, rfl⟩
  · have hb : (x.e != 0) = true := by simp [he]
    go_enter Tryd.func50, Tryd.ntmps50
    go_wp2
    go_quiet (fail)
    go_wp2
    go_ret2
    exact ⟨tup2 (int_eq (by simp [atV, atB, he])) (bool_eq (by simp [atB, he])), _, rfl⟩

theorem RdAt.drewN {w : World} {r : Nat} {s : ByteArray} {x : RS} (h : RdAt w r s x) (n : Nat) : RdAt (w.drewN n) r s x := h

/-- Does this byte stand at hand? -/
def isB (s : ByteArray) (x : RS) (c : Int) : Bool := decide (x.e = 0) && Sp.isAt s x.i c

theorem isB_at {s : ByteArray} {x : RS} {c : Int} (h : isB s x c = true) : x.e = 0 ∧ x.i < s.size ∧ Sp.byteAt s x.i = c := by
  simp [isB, Sp.isAt] at h; exact ⟨h.1, h.2.1, h.2.2⟩
theorem atB_at {s : ByteArray} {x : RS} (h : atB s x = true) : x.e = 0 ∧ x.i < s.size := by simp [atB] at h; exact h
theorem isB_eq (s : ByteArray) (x : RS) (c : Int) : isB s x c = (atB s x && decide (atV s x = c)) := by
  unfold isB atV
  by_cases h : atB s x = true
  · have := atB_at h; rw [if_pos h]; simp [h, Sp.isAt, this]
  · rw [if_neg h]; simp at h; rw [h]; simp [atB] at h
    by_cases he : x.e = 0
    · have := h he; simp [Sp.isAt]; omega
    · simp [he]

set_option maxHeartbeats 400000 in
theorem is_any (r : Nat) (s : ByteArray) (x : RS) (c : Int) (w : World) (h : RdAt w r s x) (hs : s.size ≤ 200) :
    Calls Tryd.prog 35 #[.pointer (some ⟨r, 0, none⟩), .int .u8 c] w fun k w' => k = .returned (.bool (isB s x c)) ∧ Upd [r] w w' ∧ RdAt w' r s (x.adv (isB s x c)) := by
  obtain ⟨c0, c1, c2, c3, c4, c5, fz⟩ := h.facts
  have hh : Hid (RdAt w r s x) := h
  clear h
  by_cases ha : atB s x = true
  · have hi : x.i < s.size := (atB_at ha).2
    by_cases hv : atV s x = c
    · have hv' : (atV s x != c) = false := by simp [hv]
      have HV : Hid (isB s x c = true) := by show _ = _; rw [isB_eq]; simp [hv, ha]
      clear hv
      go_enter Tryd.func35, Tryd.ntmps35
      go_wp2_with fail
      refine (at_any r s x _ hh.out hs).mono ?_
      rintro e w' ⟨rfl, n, rfl⟩
      go_wp2
      go_ret
      exact ⟨ret_bool HV.out.symm, (drewN_upd _ _ _).setCell (by simp) _, by rw [HV.out]; exact (hh.out.drewN n).set1 (x.i + 1)⟩
    · have hv' : (atV s x != c) = true := by simp [hv]
      have HV : Hid (isB s x c = false) := by show _ = _; rw [isB_eq]; simp [hv]
      clear hv
      go_enter Tryd.func35, Tryd.ntmps35
      go_wp2_with fail
      refine (at_any r s x _ hh.out hs).mono ?_
      rintro e w' ⟨rfl, n, rfl⟩
      go_wp2
      go_ret
      exact ⟨ret_bool HV.out.symm, drewN_upd _ _ _, by rw [HV.out]; exact hh.out.drewN n⟩
  · have ha : atB s x = false := by simpa using ha
    have HV : Hid (isB s x c = false) := by show _ = _; rw [isB_eq]; simp [ha]
    go_enter Tryd.func35, Tryd.ntmps35
    go_wp2_with fail
    refine (at_any r s x _ hh.out hs).mono ?_
    rintro e w' ⟨rfl, n, rfl⟩
    go_wp2
    go_ret
    exact ⟨ret_bool HV.out.symm, drewN_upd _ _ _, by rw [HV.out]; exact hh.out.drewN n⟩

def sgs : ByteArray := ⟨#[92, 40, 41, 91, 93, 123, 125, 42, 43, 63, 124, 46]⟩
theorem sg_yes (k : Nat) (hk : k < sgs.size) (c : Int) (h : ((sgs[k].toNat : Int) == c) = true) : Sp.sign c = true := by
  have hk' : k < 12 := hk
  rcases (by omega : k = 0 ∨ k = 1 ∨ k = 2 ∨ k = 3 ∨ k = 4 ∨ k = 5 ∨ k = 6 ∨ k = 7 ∨ k = 8 ∨ k = 9 ∨ k = 10 ∨ k = 11) with rfl | rfl | rfl | rfl | rfl | rfl | rfl | rfl | rfl | rfl | rfl | rfl <;>
    (rw [beq_iff_eq] at h; rw [← h]; rfl)
theorem cont_skip {a c : Int} {l : List Int} (h : (a == c) = false) : (a :: l).contains c = l.contains c := by
  have h' : a ≠ c := by simpa using h
  rw [List.contains_cons]; simp [Ne.symm h']
theorem sg_no (k : Nat) (hk : k < sgs.size) (c : Int) (h : ((sgs[k].toNat : Int) == c) = false) (hq : Sp.sign c = (List.drop k [92, 40, 41, 91, 93, 123, 125, 42, 43, 63, 124, 46]).contains c) : Sp.sign c = (List.drop (k + 1) [92, 40, 41, 91, 93, 123, 125, 42, 43, 63, 124, 46]).contains c := by
  have hk' : k < 12 := hk
  rcases (by omega : k = 0 ∨ k = 1 ∨ k = 2 ∨ k = 3 ∨ k = 4 ∨ k = 5 ∨ k = 6 ∨ k = 7 ∨ k = 8 ∨ k = 9 ∨ k = 10 ∨ k = 11) with rfl | rfl | rfl | rfl | rfl | rfl | rfl | rfl | rfl | rfl | rfl | rfl <;>
    exact hq.trans (cont_skip h)

set_option maxHeartbeats 400000 in
theorem sign_any (c : Int) (w : World) :
    Calls Tryd.prog 51 #[.int .u8 c] w fun e w' => e = .returned (.bool (Sp.sign c)) ∧ w' = w := by
  go_enter Tryd.func51, Tryd.ntmps51
  go_wp2
  go_loop [4] (fun i => ∃ k : Nat, k ≤ 12 ∧ i = .int .i64 k ∧ Hid (Sp.sign c = (List.drop k [92, 40, 41, 91, 93, 123, 125, 42, 43, 63, 124, 46]).contains c)) (fun i => 12 - (intOf i).toNat)
  case atStart => exact ⟨0, by omega, rfl, rfl⟩
  case round =>
    obtain ⟨k, hk, rfl, HQ⟩ := hrel
    by_cases hlt : k < 12
    · go_wp2
      · go_ret
        exact ⟨ret_bool (sg_yes k hlt c ‹_›).symm, rfl⟩
      · exact ⟨⟨k + 1, by omega, by go_num, sg_no k hlt c ‹_› HQ.out⟩, by simp [intOf]; omega⟩
    · have hk' : k = 12 := by omega
      subst hk'
      go_wp2
      go_ret
      exact ⟨ret_bool HQ.out.symm, rfl⟩
end Go.Proofs.YtadmlifmcdnhnaaDoor
