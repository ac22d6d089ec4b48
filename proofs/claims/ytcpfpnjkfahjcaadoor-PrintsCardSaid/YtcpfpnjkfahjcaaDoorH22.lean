import Derived.Test.YtcpfpnjkfahjcaaDoorH21
set_option linter.unusedSimpArgs false
set_option linter.unusedVariables false
namespace Go.Proofs.YtcpfpnjkfahjcaaDoor
open Go.RowKit

/-- A part of the document's tree, as it lies in memory. -/
structure PS where
  kind : Int
  l : Value
  set : Nat → Bool
  not : Bool
  dot : Bool
  single : Bool
  told : Bool
  min : Int
  max : Int

structure PtC (c : Array Value) (a : PS) : Prop where
  size : c.size = 264
  c0 : c[0]? = some (.int .u8 a.kind)
  c1 : c[1]? = some a.l
  set : ∀ i, i < 256 → c[2 + i]? = some (.bool (a.set i))
  c258 : c[258]? = some (.bool a.not)
  c259 : c[259]? = some (.bool a.dot)
  c260 : c[260]? = some (.bool a.single)
  c261 : c[261]? = some (.bool a.told)
  c262 : c[262]? = some (.int .i64 a.min)
  c263 : c[263]? = some (.int .i64 a.max)

def PtAt (w : World) (p : Nat) (a : PS) : Prop := ∃ c, w.heap[p]? = some (.cells c 77 (0, 0)) ∧ PtC c a

structure PtFacts (w : World) (p : Nat) (a : PS) : Prop where
  c0 : w.cell? ⟨p, 0, none⟩ = some (.int .u8 a.kind)
  c1 : w.cell? ⟨p, 1, none⟩ = some a.l
  c258 : w.cell? ⟨p, 258, none⟩ = some (.bool a.not)
  c259 : w.cell? ⟨p, 259, none⟩ = some (.bool a.dot)
  c260 : w.cell? ⟨p, 260, none⟩ = some (.bool a.single)
  c261 : w.cell? ⟨p, 261, none⟩ = some (.bool a.told)
  c262 : w.cell? ⟨p, 262, none⟩ = some (.int .i64 a.min)
  c263 : w.cell? ⟨p, 263, none⟩ = some (.int .i64 a.max)
  fz : ∀ o, w.frozen? ⟨p, o, none⟩ = false

theorem PtAt.facts {w : World} {p : Nat} {a : PS} (h : PtAt w p a) : PtFacts w p a := by
  obtain ⟨c, h, q⟩ := h
  refine ⟨?_, ?_, ?_, ?_, ?_, ?_, ?_, ?_, ?_⟩ <;> (try intro o) <;> simp [World.cell?, World.frozen?, h, q.c0, q.c1, q.c258, q.c259, q.c260, q.c261, q.c262, q.c263]
theorem PtAt.setFact {w : World} {p : Nat} {a : PS} (h : PtAt w p a) (i : Nat) (hi : i < 256) : w.cell? ⟨p, 2 + i, none⟩ = some (.bool (a.set i)) := by
  obtain ⟨c, h, q⟩ := h
  simp [World.cell?, h, q.set i hi]

theorem RdAt.lt {w : World} {r : Nat} {s : ByteArray} {x : RS} (h : RdAt w r s x) : r < w.heap.size := lt_of_heap h
theorem PtAt.lt {w : World} {p : Nat} {a : PS} (h : PtAt w p a) : p < w.heap.size := by obtain ⟨c, h, _⟩ := h; exact lt_of_heap h
theorem PtAt.upd {l : List Nat} {w w' : World} {p : Nat} {a : PS} (h : PtAt w p a) (u : Upd l w w') (hp : p ∉ l) : PtAt w' p a := by
  have := h.lt
  obtain ⟨c, h, q⟩ := h
  exact ⟨c, by rw [u.block p this hp]; exact h, q⟩
theorem RdAt.other {w : World} {r : Nat} {s : ByteArray} {x : RS} (h : RdAt w r s x) {p : Nat} (hp : r ≠ p) (o : Nat) (v : Value) : RdAt (w.setCell ⟨p, o, none⟩ v) r s x := by
  unfold RdAt at *; rw [Below.heap_setCell _ _ _ _ hp]; exact h
theorem PtAt.other {w : World} {p : Nat} {a : PS} (h : PtAt w p a) {r : Nat} (hp : p ≠ r) (o : Nat) (v : Value) : PtAt (w.setCell ⟨r, o, none⟩ v) p a := by
  obtain ⟨c, h, q⟩ := h
  exact ⟨c, by rw [Below.heap_setCell _ _ _ _ hp]; exact h, q⟩

theorem set_ne (c : Array Value) (v : Value) {o j : Nat} (h : o ≠ j) : (c.setIfInBounds o v)[j]? = c[j]? := Array.getElem?_setIfInBounds_ne h
theorem set_eq (c : Array Value) (v : Value) {o : Nat} (h : o < c.size) : (c.setIfInBounds o v)[o]? = some v := Array.getElem?_setIfInBounds_self_of_lt h
theorem PtC.set0 {c : Array Value} {a : PS} (q : PtC c a) (v : Int) : PtC (c.setIfInBounds 0 (.int .u8 v)) { a with kind := v } :=
  ⟨by simp [q.size], set_eq _ _ (by rw [q.size]; decide), (set_ne _ _ (by decide)).trans q.c1, fun i hi => (set_ne _ _ (by omega)).trans (q.set i hi), (set_ne _ _ (by decide)).trans q.c258, (set_ne _ _ (by decide)).trans q.c259, (set_ne _ _ (by decide)).trans q.c260, (set_ne _ _ (by decide)).trans q.c261, (set_ne _ _ (by decide)).trans q.c262, (set_ne _ _ (by decide)).trans q.c263⟩
theorem PtAt.set0 {w : World} {p : Nat} {a : PS} (h : PtAt w p a) (v : Int) : PtAt (w.setCell ⟨p, 0, none⟩ (.int .u8 v)) p { a with kind := v } := by
  obtain ⟨c, h, q⟩ := h
  exact ⟨_, heap_set h 0 _, q.set0 v⟩
theorem PtC.set1 {c : Array Value} {a : PS} (q : PtC c a) (v : Value) : PtC (c.setIfInBounds 1 v) { a with l := v } :=
  ⟨by simp [q.size], (set_ne _ _ (by decide)).trans q.c0, set_eq _ _ (by rw [q.size]; decide), fun i hi => (set_ne _ _ (by omega)).trans (q.set i hi), (set_ne _ _ (by decide)).trans q.c258, (set_ne _ _ (by decide)).trans q.c259, (set_ne _ _ (by decide)).trans q.c260, (set_ne _ _ (by decide)).trans q.c261, (set_ne _ _ (by decide)).trans q.c262, (set_ne _ _ (by decide)).trans q.c263⟩
theorem PtAt.set1 {w : World} {p : Nat} {a : PS} (h : PtAt w p a) (v : Value) : PtAt (w.setCell ⟨p, 1, none⟩ v) p { a with l := v } := by
  obtain ⟨c, h, q⟩ := h
  exact ⟨_, heap_set h 1 _, q.set1 v⟩
theorem PtC.set258 {c : Array Value} {a : PS} (q : PtC c a) (v : Bool) : PtC (c.setIfInBounds 258 (.bool v)) { a with not := v } :=
  ⟨by simp [q.size], (set_ne _ _ (by decide)).trans q.c0, (set_ne _ _ (by decide)).trans q.c1, fun i hi => (set_ne _ _ (by omega)).trans (q.set i hi), set_eq _ _ (by rw [q.size]; decide), (set_ne _ _ (by decide)).trans q.c259, (set_ne _ _ (by decide)).trans q.c260, (set_ne _ _ (by decide)).trans q.c261, (set_ne _ _ (by decide)).trans q.c262, (set_ne _ _ (by decide)).trans q.c263⟩
theorem PtAt.set258 {w : World} {p : Nat} {a : PS} (h : PtAt w p a) (v : Bool) : PtAt (w.setCell ⟨p, 258, none⟩ (.bool v)) p { a with not := v } := by
  obtain ⟨c, h, q⟩ := h
  exact ⟨_, heap_set h 258 _, q.set258 v⟩
theorem PtC.set259 {c : Array Value} {a : PS} (q : PtC c a) (v : Bool) : PtC (c.setIfInBounds 259 (.bool v)) { a with dot := v } :=
  ⟨by simp [q.size], (set_ne _ _ (by decide)).trans q.c0, (set_ne _ _ (by decide)).trans q.c1, fun i hi => (set_ne _ _ (by omega)).trans (q.set i hi), (set_ne _ _ (by decide)).trans q.c258, set_eq _ _ (by rw [q.size]; decide), (set_ne _ _ (by decide)).trans q.c260, (set_ne _ _ (by decide)).trans q.c261, (set_ne _ _ (by decide)).trans q.c262, (set_ne _ _ (by decide)).trans q.c263⟩
theorem PtAt.set259 {w : World} {p : Nat} {a : PS} (h : PtAt w p a) (v : Bool) : PtAt (w.setCell ⟨p, 259, none⟩ (.bool v)) p { a with dot := v } := by
  obtain ⟨c, h, q⟩ := h
  exact ⟨_, heap_set h 259 _, q.set259 v⟩
theorem PtC.set260 {c : Array Value} {a : PS} (q : PtC c a) (v : Bool) : PtC (c.setIfInBounds 260 (.bool v)) { a with single := v } :=
  ⟨by simp [q.size], (set_ne _ _ (by decide)).trans q.c0, (set_ne _ _ (by decide)).trans q.c1, fun i hi => (set_ne _ _ (by omega)).trans (q.set i hi), (set_ne _ _ (by decide)).trans q.c258, (set_ne _ _ (by decide)).trans q.c259, set_eq _ _ (by rw [q.size]; decide), (set_ne _ _ (by decide)).trans q.c261, (set_ne _ _ (by decide)).trans q.c262, (set_ne _ _ (by decide)).trans q.c263⟩
theorem PtAt.set260 {w : World} {p : Nat} {a : PS} (h : PtAt w p a) (v : Bool) : PtAt (w.setCell ⟨p, 260, none⟩ (.bool v)) p { a with single := v } := by
  obtain ⟨c, h, q⟩ := h
  exact ⟨_, heap_set h 260 _, q.set260 v⟩
theorem PtC.set261 {c : Array Value} {a : PS} (q : PtC c a) (v : Bool) : PtC (c.setIfInBounds 261 (.bool v)) { a with told := v } :=
  ⟨by simp [q.size], (set_ne _ _ (by decide)).trans q.c0, (set_ne _ _ (by decide)).trans q.c1, fun i hi => (set_ne _ _ (by omega)).trans (q.set i hi), (set_ne _ _ (by decide)).trans q.c258, (set_ne _ _ (by decide)).trans q.c259, (set_ne _ _ (by decide)).trans q.c260, set_eq _ _ (by rw [q.size]; decide), (set_ne _ _ (by decide)).trans q.c262, (set_ne _ _ (by decide)).trans q.c263⟩
theorem PtAt.set261 {w : World} {p : Nat} {a : PS} (h : PtAt w p a) (v : Bool) : PtAt (w.setCell ⟨p, 261, none⟩ (.bool v)) p { a with told := v } := by
  obtain ⟨c, h, q⟩ := h
  exact ⟨_, heap_set h 261 _, q.set261 v⟩
theorem PtC.set262 {c : Array Value} {a : PS} (q : PtC c a) (v : Int) : PtC (c.setIfInBounds 262 (.int .i64 v)) { a with min := v } :=
  ⟨by simp [q.size], (set_ne _ _ (by decide)).trans q.c0, (set_ne _ _ (by decide)).trans q.c1, fun i hi => (set_ne _ _ (by omega)).trans (q.set i hi), (set_ne _ _ (by decide)).trans q.c258, (set_ne _ _ (by decide)).trans q.c259, (set_ne _ _ (by decide)).trans q.c260, (set_ne _ _ (by decide)).trans q.c261, set_eq _ _ (by rw [q.size]; decide), (set_ne _ _ (by decide)).trans q.c263⟩
theorem PtAt.set262 {w : World} {p : Nat} {a : PS} (h : PtAt w p a) (v : Int) : PtAt (w.setCell ⟨p, 262, none⟩ (.int .i64 v)) p { a with min := v } := by
  obtain ⟨c, h, q⟩ := h
  exact ⟨_, heap_set h 262 _, q.set262 v⟩
theorem PtC.set263 {c : Array Value} {a : PS} (q : PtC c a) (v : Int) : PtC (c.setIfInBounds 263 (.int .i64 v)) { a with max := v } :=
  ⟨by simp [q.size], (set_ne _ _ (by decide)).trans q.c0, (set_ne _ _ (by decide)).trans q.c1, fun i hi => (set_ne _ _ (by omega)).trans (q.set i hi), (set_ne _ _ (by decide)).trans q.c258, (set_ne _ _ (by decide)).trans q.c259, (set_ne _ _ (by decide)).trans q.c260, (set_ne _ _ (by decide)).trans q.c261, (set_ne _ _ (by decide)).trans q.c262, set_eq _ _ (by rw [q.size]; decide)⟩
theorem PtAt.set263 {w : World} {p : Nat} {a : PS} (h : PtAt w p a) (v : Int) : PtAt (w.setCell ⟨p, 263, none⟩ (.int .i64 v)) p { a with max := v } := by
  obtain ⟨c, h, q⟩ := h
  exact ⟨_, heap_set h 263 _, q.set263 v⟩
theorem PtAt.setSet {w : World} {p : Nat} {a : PS} (h : PtAt w p a) (k : Nat) (hk : k < 256) (v : Bool) : PtAt (w.setCell ⟨p, 2 + k, none⟩ (.bool v)) p { a with set := fun i => if i = k then v else a.set i } := by
  obtain ⟨c, h, q⟩ := h
  refine ⟨_, heap_set h (2 + k) _, ⟨by simp [q.size], (set_ne _ _ (by omega)).trans q.c0, (set_ne _ _ (by omega)).trans q.c1, fun i hi => ?_, (set_ne _ _ (by omega)).trans q.c258, (set_ne _ _ (by omega)).trans q.c259, (set_ne _ _ (by omega)).trans q.c260, (set_ne _ _ (by omega)).trans q.c261, (set_ne _ _ (by omega)).trans q.c262, (set_ne _ _ (by omega)).trans q.c263⟩⟩
  by_cases e : i = k
  · subst e; rw [set_eq _ _ (by rw [q.size]; omega)]; simp
  · rw [set_ne _ _ (by omega), q.set i hi]; simp [e]
/-- Only the 256 bytes count. -/
theorem PtAt.congr {w : World} {p : Nat} {a : PS} (h : PtAt w p a) (f : Nat → Bool) (hf : ∀ i, i < 256 → f i = a.set i) : PtAt w p { a with set := f } := by
  obtain ⟨c, h, q⟩ := h
  exact ⟨c, h, ⟨q.size, q.c0, q.c1, fun i hi => (q.set i hi).trans (by simp [hf i hi]), q.c258, q.c259, q.c260, q.c261, q.c262, q.c263⟩⟩

def PS.zero : PS := { kind := 0, l := .slice none 0 0, set := fun _ => false, not := false, dot := false, single := false, told := false, min := 0, max := 0 }

theorem zeroPart : Tryd.zeroCells77 = #[.int .u8 0, .slice none 0 0] ++ Array.replicate 256 (.bool false) ++ #[.bool false, .bool false, .bool false, .bool false, .int .i64 0, .int .i64 0] := by kernel_rfl

theorem PtC.zero : PtC Tryd.zeroCells77 PS.zero := by
  rw [zeroPart]
  refine ⟨by simp, ?_, ?_, fun i hi => ?_, ?_, ?_, ?_, ?_, ?_, ?_⟩
  case refine_3 =>
    rw [Array.getElem?_append_left (by simp; omega), Array.getElem?_append_right (by simp)]
    simp [PS.zero, hi]
  all_goals simp [PS.zero]
theorem PtAt.new {w : World} {c : Array Value} {a : PS} (q : PtC c a) : PtAt (w.alloc (.cells c 77)) w.heap.size a := ⟨c, by show (w.heap.push _)[w.heap.size]? = _; simp, q⟩
end Go.Proofs.YtcpfpnjkfahjcaaDoor
