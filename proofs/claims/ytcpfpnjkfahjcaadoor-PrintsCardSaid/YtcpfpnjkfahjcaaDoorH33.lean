import Derived.Test.YtcpfpnjkfahjcaaDoorH32
import Derived.Test.YtcpfpnjkfahjcaaDoorH03
import Derived.Deep.RegionWith
set_option linter.unusedSimpArgs false
set_option linter.unusedVariables false
namespace Go.Proofs.YtcpfpnjkfahjcaaDoor
open Go.RowKit

theorem Upd.cells {w w' : World} (h : Upd [] w w') : ∀ b o, b < w.heap.size → w'.cell? ⟨b, o, none⟩ = w.cell? ⟨b, o, none⟩ := fun b o hb => World.cell?_of_block (w := w) (h.block b hb (by simp))

theorem keep2 {p : Nat} {u v : Value} {w w' : World} (h : Upd [] w w') (k : p < w.heap.size ∧ w.cell? ⟨p, 262, none⟩ = some u ∧ w.cell? ⟨p, 263, none⟩ = some v) : p < w'.heap.size ∧ w'.cell? ⟨p, 262, none⟩ = some u ∧ w'.cell? ⟨p, 263, none⟩ = some v :=
  ⟨Nat.lt_of_lt_of_le k.1 h.size, (h.cells p 262 k.1).trans k.2.1, (h.cells p 263 k.1).trans k.2.2⟩

def TextC (p : Nat) (t : Tr) (w : World) : Prop := Calls Tryd.prog 13 #[.pointer (some ⟨p, 0, none⟩)] w (StrOut (Sp.text t) w)
def BareC (p : Nat) (t : Tr) (w : World) : Prop := Calls Tryd.prog 21 #[.pointer (some ⟨p, 0, none⟩)] w (StrOut (Sp.bareT t) w)

set_option maxHeartbeats 1000000 in
theorem text_none (p : Nat) (a : Lab) (ks : List Tr) (l : Value) (w : World) (h : PtAt w p (psOf a l)) (ha : Sp.LabOK a) (hb : BareC p ⟨a, ks⟩ w) (hlen : (Sp.bareT ⟨a, ks⟩).length ≤ 4000000) (c1 : a.min < 0) : TextC p ⟨a, ks⟩ w := by
  have HR : Hid (Sp.text ⟨a, ks⟩ = Sp.bareT ⟨a, ks⟩ ++ []) := by show Sp.bareT _ ++ Sp.cnt a = _; unfold Sp.cnt; rw [if_pos c1]
  have HB : Hid (BareC p ⟨a, ks⟩ w) := hb
  have hh : Hid (PtAt w p (psOf a l)) := h
  have m0 := ha.min0
  have m1 := ha.min1
  have m2 := ha.max0
  have m3 := ha.max1
  clear h hb ha
  unfold TextC
  generalize hbt : Sp.bareT ⟨a, ks⟩ = B at *
  have HBT : Hid (Sp.bareT ⟨a, ks⟩ = B) := hbt
  clear hbt
  go_enter Tryd.func13, Tryd.ntmps13
  go_wp2_with fail
  have hcall := HB.out
  unfold BareC at hcall
  rw [HBT.out] at hcall
  refine hcall.mono ?_
  clear hcall
  rintro e w1 ⟨rfl, hu1⟩
  have HU1 : Hid (Upd [] w w1) := hu1
  have HP1 : Hid (PtAt w1 p (psOf a l)) := hh.out.upd hu1 (by simp)
  obtain ⟨p0, p1, p258, p259, p260, p261, p262', p263', pz⟩ := HP1.out.facts
  have p262 : w1.cell? ⟨p, 262, none⟩ = some (.int .i64 a.min) := p262'
  have p263 : w1.cell? ⟨p, 263, none⟩ = some (.int .i64 a.max) := p263'
  clear hu1 p0 p1 p258 p259 p260 p261 p262' p263'
  go_wp2_with fail
  go_ret
  exact ⟨ret_str (by rw [HR.out]; simp), HU1.out⟩

set_option maxHeartbeats 1000000 in
theorem text_star (p : Nat) (a : Lab) (ks : List Tr) (l : Value) (w : World) (h : PtAt w p (psOf a l)) (ha : Sp.LabOK a) (hb : BareC p ⟨a, ks⟩ w) (hlen : (Sp.bareT ⟨a, ks⟩).length ≤ 4000000) (c1 : a.min = 0) (c2 : a.max < 0) : TextC p ⟨a, ks⟩ w := by
  have HR : Hid (Sp.text ⟨a, ks⟩ = Sp.bareT ⟨a, ks⟩ ++ [42]) := by show Sp.bareT _ ++ Sp.cnt a = _; unfold Sp.cnt; rw [if_neg (by omega), if_pos ⟨c1, c2⟩]
  have HB : Hid (BareC p ⟨a, ks⟩ w) := hb
  have hh : Hid (PtAt w p (psOf a l)) := h
  have m0 := ha.min0
  have m1 := ha.min1
  have m2 := ha.max0
  have m3 := ha.max1
  clear h hb ha
  unfold TextC
  generalize hbt : Sp.bareT ⟨a, ks⟩ = B at *
  have HBT : Hid (Sp.bareT ⟨a, ks⟩ = B) := hbt
  clear hbt
  have e1 : (a.min == 0) = true := by simpa using c1
  have e0 : ¬ a.min < 0 := by omega
  clear c1
  have k1 : ∀ w, (Op.stringOp .add (str B) ⟨#[42]⟩).run Tryd.prog w = .ok (.string (str (cat B [42]))) w := addS _ [42] (by first | omega | (simp only [cat_len]; omega)) (by simp)
  go_enter Tryd.func13, Tryd.ntmps13
  go_wp2_with fail
  have hcall := HB.out
  unfold BareC at hcall
  rw [HBT.out] at hcall
  refine hcall.mono ?_
  clear hcall
  rintro e w1 ⟨rfl, hu1⟩
  have HU1 : Hid (Upd [] w w1) := hu1
  have HP1 : Hid (PtAt w1 p (psOf a l)) := hh.out.upd hu1 (by simp)
  obtain ⟨p0, p1, p258, p259, p260, p261, p262', p263', pz⟩ := HP1.out.facts
  have p262 : w1.cell? ⟨p, 262, none⟩ = some (.int .i64 a.min) := p262'
  have p263 : w1.cell? ⟨p, 263, none⟩ = some (.int .i64 a.max) := p263'
  clear hu1 p0 p1 p258 p259 p260 p261 p262' p263'
  go_wp2_with fail
  go_ret
  exact ⟨ret_str (by rw [HR.out]; simp [cat]), HU1.out⟩

set_option maxHeartbeats 1000000 in
theorem text_plus (p : Nat) (a : Lab) (ks : List Tr) (l : Value) (w : World) (h : PtAt w p (psOf a l)) (ha : Sp.LabOK a) (hb : BareC p ⟨a, ks⟩ w) (hlen : (Sp.bareT ⟨a, ks⟩).length ≤ 4000000) (c1 : a.min = 1) (c2 : a.max < 0) : TextC p ⟨a, ks⟩ w := by
  have HR : Hid (Sp.text ⟨a, ks⟩ = Sp.bareT ⟨a, ks⟩ ++ [43]) := by show Sp.bareT _ ++ Sp.cnt a = _; unfold Sp.cnt; rw [if_neg (by omega), if_neg (by omega), if_pos ⟨c1, c2⟩]
  have HB : Hid (BareC p ⟨a, ks⟩ w) := hb
  have hh : Hid (PtAt w p (psOf a l)) := h
  have m0 := ha.min0
  have m1 := ha.min1
  have m2 := ha.max0
  have m3 := ha.max1
  clear h hb ha
  unfold TextC
  generalize hbt : Sp.bareT ⟨a, ks⟩ = B at *
  have HBT : Hid (Sp.bareT ⟨a, ks⟩ = B) := hbt
  clear hbt
  have e1 : (a.min == 0) = false := by simp; omega
  have e2 : (a.min == 1) = true := by simpa using c1
  have e0 : ¬ a.min < 0 := by omega
  clear c1
  have k1 : ∀ w, (Op.stringOp .add (str B) ⟨#[43]⟩).run Tryd.prog w = .ok (.string (str (cat B [43]))) w := addS _ [43] (by first | omega | (simp only [cat_len]; omega)) (by simp)
  go_enter Tryd.func13, Tryd.ntmps13
  go_wp2_with fail
  have hcall := HB.out
  unfold BareC at hcall
  rw [HBT.out] at hcall
  refine hcall.mono ?_
  clear hcall
  rintro e w1 ⟨rfl, hu1⟩
  have HU1 : Hid (Upd [] w w1) := hu1
  have HP1 : Hid (PtAt w1 p (psOf a l)) := hh.out.upd hu1 (by simp)
  obtain ⟨p0, p1, p258, p259, p260, p261, p262', p263', pz⟩ := HP1.out.facts
  have p262 : w1.cell? ⟨p, 262, none⟩ = some (.int .i64 a.min) := p262'
  have p263 : w1.cell? ⟨p, 263, none⟩ = some (.int .i64 a.max) := p263'
  clear hu1 p0 p1 p258 p259 p260 p261 p262' p263'
  go_wp2_with fail
  go_ret
  exact ⟨ret_str (by rw [HR.out]; simp [cat]), HU1.out⟩

set_option maxHeartbeats 1000000 in
theorem text_quest (p : Nat) (a : Lab) (ks : List Tr) (l : Value) (w : World) (h : PtAt w p (psOf a l)) (ha : Sp.LabOK a) (hb : BareC p ⟨a, ks⟩ w) (hlen : (Sp.bareT ⟨a, ks⟩).length ≤ 4000000) (c1 : a.min = 0) (c2 : a.max = 1) : TextC p ⟨a, ks⟩ w := by
  have HR : Hid (Sp.text ⟨a, ks⟩ = Sp.bareT ⟨a, ks⟩ ++ [63]) := by show Sp.bareT _ ++ Sp.cnt a = _; unfold Sp.cnt; rw [if_neg (by omega), if_neg (by omega), if_neg (by omega), if_pos ⟨c1, c2⟩]
  have HB : Hid (BareC p ⟨a, ks⟩ w) := hb
  have hh : Hid (PtAt w p (psOf a l)) := h
  have m0 := ha.min0
  have m1 := ha.min1
  have m2 := ha.max0
  have m3 := ha.max1
  clear h hb ha
  unfold TextC
  generalize hbt : Sp.bareT ⟨a, ks⟩ = B at *
  have HBT : Hid (Sp.bareT ⟨a, ks⟩ = B) := hbt
  clear hbt
  have e1 : (a.min == 0) = true := by simpa using c1
  have e0 : ¬ a.min < 0 := by omega
  have e2 : (a.min == 1) = false := by simp; omega
  have e3 : (a.max == 1) = true := by simpa using c2
  have e4 : ¬ a.max < 0 := by omega
  clear c1 c2
  have k1 : ∀ w, (Op.stringOp .add (str B) ⟨#[63]⟩).run Tryd.prog w = .ok (.string (str (cat B [63]))) w := addS _ [63] (by first | omega | (simp only [cat_len]; omega)) (by simp)
  go_enter Tryd.func13, Tryd.ntmps13
  go_wp2_with fail
  have hcall := HB.out
  unfold BareC at hcall
  rw [HBT.out] at hcall
  refine hcall.mono ?_
  clear hcall
  rintro e w1 ⟨rfl, hu1⟩
  have HU1 : Hid (Upd [] w w1) := hu1
  have HP1 : Hid (PtAt w1 p (psOf a l)) := hh.out.upd hu1 (by simp)
  obtain ⟨p0, p1, p258, p259, p260, p261, p262', p263', pz⟩ := HP1.out.facts
  have p262 : w1.cell? ⟨p, 262, none⟩ = some (.int .i64 a.min) := p262'
  have p263 : w1.cell? ⟨p, 263, none⟩ = some (.int .i64 a.max) := p263'
  clear hu1 p0 p1 p258 p259 p260 p261 p262' p263'
  go_wp2_with fail
  go_ret
  exact ⟨ret_str (by rw [HR.out]; simp [cat]), HU1.out⟩

set_option maxHeartbeats 1000000 in
theorem text_least (p : Nat) (a : Lab) (ks : List Tr) (l : Value) (w : World) (h : PtAt w p (psOf a l)) (ha : Sp.LabOK a) (hb : BareC p ⟨a, ks⟩ w) (hlen : (Sp.bareT ⟨a, ks⟩).length ≤ 4000000) (c1 : 2 ≤ a.min) (c2 : a.max < 0) : TextC p ⟨a, ks⟩ w := by
  have HR : Hid (Sp.text ⟨a, ks⟩ = Sp.bareT ⟨a, ks⟩ ++ ([123] ++ Sp.digs a.min ++ [44, 125])) := by show Sp.bareT _ ++ Sp.cnt a = _; unfold Sp.cnt; rw [if_neg (by omega), if_neg (by omega), if_neg (by omega), if_neg (by omega), if_pos c2]
  have HB : Hid (BareC p ⟨a, ks⟩ w) := hb
  have hh : Hid (PtAt w p (psOf a l)) := h
  have m0 := ha.min0
  have m1 := ha.min1
  have m2 := ha.max0
  have m3 := ha.max1
  clear h hb ha
  unfold TextC
  generalize hbt : Sp.bareT ⟨a, ks⟩ = B at *
  have HBT : Hid (Sp.bareT ⟨a, ks⟩ = B) := hbt
  clear hbt
  have e1 : (a.min == 0) = false := by simp; omega
  have e2 : (a.min == 1) = false := by simp; omega
  have d1 := Sp.digs_le a.min
  have d2 := Sp.digs_le a.max
  have k1 : ∀ w, (Op.stringOp .add (str B) ⟨#[123]⟩).run Tryd.prog w = .ok (.string (str (cat B [123]))) w := addS _ [123] (by first | omega | (simp only [cat_len]; omega)) (by simp)
  have k2 := addS (cat B [123]) (Sp.digs a.min) (by rw [cat_len]; simp; omega) (by omega)
  have k3 : ∀ w, (Op.stringOp .add (str (cat (cat B [123]) (Sp.digs a.min))) ⟨#[44, 125]⟩).run Tryd.prog w = .ok (.string (str (cat (cat (cat B [123]) (Sp.digs a.min)) [44, 125]))) w := addS _ [44, 125] (by simp only [cat_len]; simp; omega) (by simp)
  go_enter Tryd.func13, Tryd.ntmps13
  go_wp2_with fail
  have hcall := HB.out
  unfold BareC at hcall
  rw [HBT.out] at hcall
  refine hcall.mono ?_
  clear hcall
  rintro e w1 ⟨rfl, hu1⟩
  have HU1 : Hid (Upd [] w w1) := hu1
  have HP1 : Hid (PtAt w1 p (psOf a l)) := hh.out.upd hu1 (by simp)
  obtain ⟨p0, p1, p258, p259, p260, p261, p262', p263', pz⟩ := HP1.out.facts
  have p262 : w1.cell? ⟨p, 262, none⟩ = some (.int .i64 a.min) := p262'
  have p263 : w1.cell? ⟨p, 263, none⟩ = some (.int .i64 a.max) := p263'
  clear hu1 p0 p1 p258 p259 p260 p261 p262' p263'
  go_wp2_with fail
  refine (digits_any a.min _ (by omega) (by omega)).mono ?_
  rintro e w2 ⟨rfl, hu2⟩
  have HU2 : Hid (Upd [] w w2) := HU1.out.trans hu2
  clear hu2
  go_wp2_with fail
  go_ret
  exact ⟨ret_str (by rw [HR.out]; simp [cat]), HU2.out⟩

set_option maxHeartbeats 1000000 in
theorem text_exact (p : Nat) (a : Lab) (ks : List Tr) (l : Value) (w : World) (h : PtAt w p (psOf a l)) (ha : Sp.LabOK a) (hb : BareC p ⟨a, ks⟩ w) (hlen : (Sp.bareT ⟨a, ks⟩).length ≤ 4000000) (c0 : 0 ≤ a.min) (c1 : a.min = a.max) : TextC p ⟨a, ks⟩ w := by
  have HR : Hid (Sp.text ⟨a, ks⟩ = Sp.bareT ⟨a, ks⟩ ++ ([123] ++ Sp.digs a.min ++ [125])) := by show Sp.bareT _ ++ Sp.cnt a = _; unfold Sp.cnt; rw [if_neg (by omega), if_neg (by omega), if_neg (by omega), if_neg (by omega), if_neg (by omega), if_pos c1]
  have HB : Hid (BareC p ⟨a, ks⟩ w) := hb
  have hh : Hid (PtAt w p (psOf a l)) := h
  have m0 := ha.min0
  have m1 := ha.min1
  have m2 := ha.max0
  have m3 := ha.max1
  clear h hb ha
  unfold TextC
  generalize hbt : Sp.bareT ⟨a, ks⟩ = B at *
  have HBT : Hid (Sp.bareT ⟨a, ks⟩ = B) := hbt
  clear hbt
  have e5 : (a.min == a.max) = true := by simpa using c1
  have e4 : ¬ a.max < 0 := by omega
  have e6 : ¬ a.min < 0 := by omega
  have e7 : ¬ (a.min = 0 ∧ a.max = 1) := by omega
  clear c1
  have d1 := Sp.digs_le a.min
  have d2 := Sp.digs_le a.max
  have k1 : ∀ w, (Op.stringOp .add (str B) ⟨#[123]⟩).run Tryd.prog w = .ok (.string (str (cat B [123]))) w := addS _ [123] (by first | omega | (simp only [cat_len]; omega)) (by simp)
  have k2 := addS (cat B [123]) (Sp.digs a.min) (by rw [cat_len]; simp; omega) (by omega)
  have k3 : ∀ w, (Op.stringOp .add (str (cat (cat B [123]) (Sp.digs a.min))) ⟨#[125]⟩).run Tryd.prog w = .ok (.string (str (cat (cat (cat B [123]) (Sp.digs a.min)) [125]))) w := addS _ [125] (by simp only [cat_len]; simp; omega) (by simp)
  rcases (by omega : a.min = 0 ∨ a.min = 1 ∨ 2 ≤ a.min) with z | z | z
  all_goals
    first | (have f0 : (a.min == 0) = true := by simp; omega) | (have f0 : (a.min == 0) = false := by simp; omega)
    first | (have f1 : (a.min == 1) = true := by simp; omega) | (have f1 : (a.min == 1) = false := by simp; omega)
    first | (have f2 : (a.max == 1) = false := by simp; omega) | skip
    clear z
  all_goals
    go_enter Tryd.func13, Tryd.ntmps13
    go_wp2_with fail
    have hcall := HB.out
    unfold BareC at hcall
    rw [HBT.out] at hcall
    refine hcall.mono ?_
    clear hcall
    rintro e w1 ⟨rfl, hu1⟩
    have HU1 : Hid (Upd [] w w1) := hu1
    have HP1 : Hid (PtAt w1 p (psOf a l)) := hh.out.upd hu1 (by simp)
    obtain ⟨p0, p1, p258, p259, p260, p261, p262', p263', pz⟩ := HP1.out.facts
    have p262 : w1.cell? ⟨p, 262, none⟩ = some (.int .i64 a.min) := p262'
    have p263 : w1.cell? ⟨p, 263, none⟩ = some (.int .i64 a.max) := p263'
    clear hu1 p0 p1 p258 p259 p260 p261 p262' p263'
    go_wp2_with fail
    go_quiet (fail)
    go_wp2_with fail
    refine (digits_any a.min _ (by omega) (by omega)).mono ?_
    rintro e w2 ⟨rfl, hu2⟩
    have HU2 : Hid (Upd [] w w2) := HU1.out.trans hu2.pre
    clear hu2
    go_wp2_with fail
    go_ret
    exact ⟨ret_str (by rw [HR.out]; simp [cat]), HU2.out⟩

set_option maxHeartbeats 1000000 in
theorem text_both0 (p : Nat) (a : Lab) (ks : List Tr) (l : Value) (w : World) (h : PtAt w p (psOf a l)) (ha : Sp.LabOK a) (hb : BareC p ⟨a, ks⟩ w) (hlen : (Sp.bareT ⟨a, ks⟩).length ≤ 4000000) (z : a.min = 0) (c0 : 0 ≤ a.min) (c1 : a.min ≠ a.max) (c2 : 0 ≤ a.max) (c3 : ¬ (a.min = 0 ∧ a.max = 1)) : TextC p ⟨a, ks⟩ w := by
  have HR : Hid (Sp.text ⟨a, ks⟩ = Sp.bareT ⟨a, ks⟩ ++ ([123] ++ Sp.digs a.min ++ [44] ++ Sp.digs a.max ++ [125])) := by show Sp.bareT _ ++ Sp.cnt a = _; unfold Sp.cnt; rw [if_neg (by omega), if_neg (by omega), if_neg (by omega), if_neg c3, if_neg (by omega), if_neg c1]
  have HB : Hid (BareC p ⟨a, ks⟩ w) := hb
  have hh : Hid (PtAt w p (psOf a l)) := h
  have m0 := ha.min0
  have m1 := ha.min1
  have m2 := ha.max0
  have m3 := ha.max1
  clear h hb ha
  unfold TextC
  generalize hbt : Sp.bareT ⟨a, ks⟩ = B at *
  have HBT : Hid (Sp.bareT ⟨a, ks⟩ = B) := hbt
  clear hbt
  have e5 : (a.min == a.max) = false := by simpa using c1
  have e4 : ¬ a.max < 0 := by omega
  have e6 : ¬ a.min < 0 := by omega
  have d1 := Sp.digs_le a.min
  have d2 := Sp.digs_le a.max
  have k1 : ∀ w, (Op.stringOp .add (str B) ⟨#[123]⟩).run Tryd.prog w = .ok (.string (str (cat B [123]))) w := addS _ [123] (by first | omega | (simp only [cat_len]; omega)) (by simp)
  have k2 := addS (cat B [123]) (Sp.digs a.min) (by rw [cat_len]; simp; omega) (by omega)
  have k3 : ∀ w, (Op.stringOp .add (str (cat (cat B [123]) (Sp.digs a.min))) ⟨#[44]⟩).run Tryd.prog w = .ok (.string (str (cat (cat (cat B [123]) (Sp.digs a.min)) [44]))) w := addS _ [44] (by simp only [cat_len]; simp; omega) (by simp)
  have k4 := addS (cat (cat (cat B [123]) (Sp.digs a.min)) [44]) (Sp.digs a.max) (by simp only [cat_len]; simp; omega) (by omega)
  have k5 : ∀ w, (Op.stringOp .add (str (cat (cat (cat (cat B [123]) (Sp.digs a.min)) [44]) (Sp.digs a.max))) ⟨#[125]⟩).run Tryd.prog w = .ok (.string (str (cat (cat (cat (cat (cat B [123]) (Sp.digs a.min)) [44]) (Sp.digs a.max)) [125]))) w := addS _ [125] (by simp only [cat_len]; simp; omega) (by simp)
  have f0 : (a.min == 0) = true := by simpa using z
  have f1 : (a.min == 1) = false := by simp; omega
  have f2 : (a.max == 1) = false := by simp; omega
  clear z
  go_enter Tryd.func13, Tryd.ntmps13
  go_wp2_with fail
  have hcall := HB.out
  unfold BareC at hcall
  rw [HBT.out] at hcall
  refine hcall.mono ?_
  clear hcall
  rintro e w1 ⟨rfl, hu1⟩
  have HU1 : Hid (Upd [] w w1) := hu1
  have HP1 : Hid (PtAt w1 p (psOf a l)) := hh.out.upd hu1 (by simp)
  obtain ⟨p0, p1, p258, p259, p260, p261, p262', p263', pz⟩ := HP1.out.facts
  have p262 : w1.cell? ⟨p, 262, none⟩ = some (.int .i64 a.min) := p262'
  have p263 : w1.cell? ⟨p, 263, none⟩ = some (.int .i64 a.max) := p263'
  clear hu1 p0 p1 p258 p259 p260 p261 p262' p263'
  go_wp2_with fail
  go_quiet (fail)
  go_wp2_with fail
  have HH1 : Hid (p < w1.heap.size ∧ w1.cell? ⟨p, 262, none⟩ = some (.int .i64 a.min) ∧ w1.cell? ⟨p, 263, none⟩ = some (.int .i64 a.max)) := ⟨HP1.out.lt, p262, p263⟩
  go_region_with (go_at_call 22; refine (digits_any _ _ (by omega) (by omega)).mono ?_; rintro e w2 ⟨rfl, hu2⟩; have HH2 : Hid (p < w2.heap.size ∧ w2.cell? ⟨p, 262, none⟩ = some (.int .i64 a.min) ∧ w2.cell? ⟨p, 263, none⟩ = some (.int .i64 a.max)) := (by first | exact keep2 hu2 HH2.out | exact keep2 hu2 HH1.out); have q262 := HH2.out.2.1; have q263 := HH2.out.2.2)
  all_goals
    go_wp2_with fail
    go_ret
    exact ⟨ret_str (by rw [HR.out]; simp [cat]), (HU1.out.trans (Upd.pre ‹Upd [] (w1.drewN _) _›)).trans hu2⟩

set_option maxHeartbeats 1000000 in
theorem text_both1 (p : Nat) (a : Lab) (ks : List Tr) (l : Value) (w : World) (h : PtAt w p (psOf a l)) (ha : Sp.LabOK a) (hb : BareC p ⟨a, ks⟩ w) (hlen : (Sp.bareT ⟨a, ks⟩).length ≤ 4000000) (z : a.min = 1) (c0 : 0 ≤ a.min) (c1 : a.min ≠ a.max) (c2 : 0 ≤ a.max) (c3 : ¬ (a.min = 0 ∧ a.max = 1)) : TextC p ⟨a, ks⟩ w := by
  have HR : Hid (Sp.text ⟨a, ks⟩ = Sp.bareT ⟨a, ks⟩ ++ ([123] ++ Sp.digs a.min ++ [44] ++ Sp.digs a.max ++ [125])) := by show Sp.bareT _ ++ Sp.cnt a = _; unfold Sp.cnt; rw [if_neg (by omega), if_neg (by omega), if_neg (by omega), if_neg c3, if_neg (by omega), if_neg c1]
  have HB : Hid (BareC p ⟨a, ks⟩ w) := hb
  have hh : Hid (PtAt w p (psOf a l)) := h
  have m0 := ha.min0
  have m1 := ha.min1
  have m2 := ha.max0
  have m3 := ha.max1
  clear h hb ha
  unfold TextC
  generalize hbt : Sp.bareT ⟨a, ks⟩ = B at *
  have HBT : Hid (Sp.bareT ⟨a, ks⟩ = B) := hbt
  clear hbt
  have e5 : (a.min == a.max) = false := by simpa using c1
  have e4 : ¬ a.max < 0 := by omega
  have e6 : ¬ a.min < 0 := by omega
  have d1 := Sp.digs_le a.min
  have d2 := Sp.digs_le a.max
  have k1 : ∀ w, (Op.stringOp .add (str B) ⟨#[123]⟩).run Tryd.prog w = .ok (.string (str (cat B [123]))) w := addS _ [123] (by first | omega | (simp only [cat_len]; omega)) (by simp)
  have k2 := addS (cat B [123]) (Sp.digs a.min) (by rw [cat_len]; simp; omega) (by omega)
  have k3 : ∀ w, (Op.stringOp .add (str (cat (cat B [123]) (Sp.digs a.min))) ⟨#[44]⟩).run Tryd.prog w = .ok (.string (str (cat (cat (cat B [123]) (Sp.digs a.min)) [44]))) w := addS _ [44] (by simp only [cat_len]; simp; omega) (by simp)
  have k4 := addS (cat (cat (cat B [123]) (Sp.digs a.min)) [44]) (Sp.digs a.max) (by simp only [cat_len]; simp; omega) (by omega)
  have k5 : ∀ w, (Op.stringOp .add (str (cat (cat (cat (cat B [123]) (Sp.digs a.min)) [44]) (Sp.digs a.max))) ⟨#[125]⟩).run Tryd.prog w = .ok (.string (str (cat (cat (cat (cat (cat B [123]) (Sp.digs a.min)) [44]) (Sp.digs a.max)) [125]))) w := addS _ [125] (by simp only [cat_len]; simp; omega) (by simp)
  have f0 : (a.min == 0) = false := by simp; omega
  have f1 : (a.min == 1) = true := by simpa using z
  clear z
  go_enter Tryd.func13, Tryd.ntmps13
  go_wp2_with fail
  have hcall := HB.out
  unfold BareC at hcall
  rw [HBT.out] at hcall
  refine hcall.mono ?_
  clear hcall
  rintro e w1 ⟨rfl, hu1⟩
  have HU1 : Hid (Upd [] w w1) := hu1
  have HP1 : Hid (PtAt w1 p (psOf a l)) := hh.out.upd hu1 (by simp)
  obtain ⟨p0, p1, p258, p259, p260, p261, p262', p263', pz⟩ := HP1.out.facts
  have p262 : w1.cell? ⟨p, 262, none⟩ = some (.int .i64 a.min) := p262'
  have p263 : w1.cell? ⟨p, 263, none⟩ = some (.int .i64 a.max) := p263'
  clear hu1 p0 p1 p258 p259 p260 p261 p262' p263'
  go_wp2_with fail
  go_quiet (fail)
  go_wp2_with fail
  have HH1 : Hid (p < w1.heap.size ∧ w1.cell? ⟨p, 262, none⟩ = some (.int .i64 a.min) ∧ w1.cell? ⟨p, 263, none⟩ = some (.int .i64 a.max)) := ⟨HP1.out.lt, p262, p263⟩
  go_region_with (go_at_call 22; refine (digits_any _ _ (by omega) (by omega)).mono ?_; rintro e w2 ⟨rfl, hu2⟩; have HH2 : Hid (p < w2.heap.size ∧ w2.cell? ⟨p, 262, none⟩ = some (.int .i64 a.min) ∧ w2.cell? ⟨p, 263, none⟩ = some (.int .i64 a.max)) := (by first | exact keep2 hu2 HH2.out | exact keep2 hu2 HH1.out); have q262 := HH2.out.2.1; have q263 := HH2.out.2.2)
  all_goals
    go_wp2_with fail
    go_ret
    exact ⟨ret_str (by rw [HR.out]; simp [cat]), (HU1.out.trans (Upd.pre ‹Upd [] (w1.drewN _) _›)).trans hu2⟩

set_option maxHeartbeats 1000000 in
theorem text_both2 (p : Nat) (a : Lab) (ks : List Tr) (l : Value) (w : World) (h : PtAt w p (psOf a l)) (ha : Sp.LabOK a) (hb : BareC p ⟨a, ks⟩ w) (hlen : (Sp.bareT ⟨a, ks⟩).length ≤ 4000000) (z : 2 ≤ a.min) (c0 : 0 ≤ a.min) (c1 : a.min ≠ a.max) (c2 : 0 ≤ a.max) (c3 : ¬ (a.min = 0 ∧ a.max = 1)) : TextC p ⟨a, ks⟩ w := by
  have HR : Hid (Sp.text ⟨a, ks⟩ = Sp.bareT ⟨a, ks⟩ ++ ([123] ++ Sp.digs a.min ++ [44] ++ Sp.digs a.max ++ [125])) := by show Sp.bareT _ ++ Sp.cnt a = _; unfold Sp.cnt; rw [if_neg (by omega), if_neg (by omega), if_neg (by omega), if_neg c3, if_neg (by omega), if_neg c1]
  have HB : Hid (BareC p ⟨a, ks⟩ w) := hb
  have hh : Hid (PtAt w p (psOf a l)) := h
  have m0 := ha.min0
  have m1 := ha.min1
  have m2 := ha.max0
  have m3 := ha.max1
  clear h hb ha
  unfold TextC
  generalize hbt : Sp.bareT ⟨a, ks⟩ = B at *
  have HBT : Hid (Sp.bareT ⟨a, ks⟩ = B) := hbt
  clear hbt
  have e5 : (a.min == a.max) = false := by simpa using c1
  have e4 : ¬ a.max < 0 := by omega
  have e6 : ¬ a.min < 0 := by omega
  have d1 := Sp.digs_le a.min
  have d2 := Sp.digs_le a.max
  have k1 : ∀ w, (Op.stringOp .add (str B) ⟨#[123]⟩).run Tryd.prog w = .ok (.string (str (cat B [123]))) w := addS _ [123] (by first | omega | (simp only [cat_len]; omega)) (by simp)
  have k2 := addS (cat B [123]) (Sp.digs a.min) (by rw [cat_len]; simp; omega) (by omega)
  have k3 : ∀ w, (Op.stringOp .add (str (cat (cat B [123]) (Sp.digs a.min))) ⟨#[44]⟩).run Tryd.prog w = .ok (.string (str (cat (cat (cat B [123]) (Sp.digs a.min)) [44]))) w := addS _ [44] (by simp only [cat_len]; simp; omega) (by simp)
  have k4 := addS (cat (cat (cat B [123]) (Sp.digs a.min)) [44]) (Sp.digs a.max) (by simp only [cat_len]; simp; omega) (by omega)
  have k5 : ∀ w, (Op.stringOp .add (str (cat (cat (cat (cat B [123]) (Sp.digs a.min)) [44]) (Sp.digs a.max))) ⟨#[125]⟩).run Tryd.prog w = .ok (.string (str (cat (cat (cat (cat (cat B [123]) (Sp.digs a.min)) [44]) (Sp.digs a.max)) [125]))) w := addS _ [125] (by simp only [cat_len]; simp; omega) (by simp)
  have f0 : (a.min == 0) = false := by simp; omega
  have f1 : (a.min == 1) = false := by simp; omega
  clear z
  go_enter Tryd.func13, Tryd.ntmps13
  go_wp2_with fail
  have hcall := HB.out
  unfold BareC at hcall
  rw [HBT.out] at hcall
  refine hcall.mono ?_
  clear hcall
  rintro e w1 ⟨rfl, hu1⟩
  have HU1 : Hid (Upd [] w w1) := hu1
  have HP1 : Hid (PtAt w1 p (psOf a l)) := hh.out.upd hu1 (by simp)
  obtain ⟨p0, p1, p258, p259, p260, p261, p262', p263', pz⟩ := HP1.out.facts
  have p262 : w1.cell? ⟨p, 262, none⟩ = some (.int .i64 a.min) := p262'
  have p263 : w1.cell? ⟨p, 263, none⟩ = some (.int .i64 a.max) := p263'
  clear hu1 p0 p1 p258 p259 p260 p261 p262' p263'
  go_wp2_with fail
  go_quiet (fail)
  go_wp2_with fail
  have HH1 : Hid (p < w1.heap.size ∧ w1.cell? ⟨p, 262, none⟩ = some (.int .i64 a.min) ∧ w1.cell? ⟨p, 263, none⟩ = some (.int .i64 a.max)) := ⟨HP1.out.lt, p262, p263⟩
  go_region_with (go_at_call 22; refine (digits_any _ _ (by omega) (by omega)).mono ?_; rintro e w2 ⟨rfl, hu2⟩; have HH2 : Hid (p < w2.heap.size ∧ w2.cell? ⟨p, 262, none⟩ = some (.int .i64 a.min) ∧ w2.cell? ⟨p, 263, none⟩ = some (.int .i64 a.max)) := (by first | exact keep2 hu2 HH2.out | exact keep2 hu2 HH1.out); have q262 := HH2.out.2.1; have q263 := HH2.out.2.2)
  all_goals
    go_wp2_with fail
    go_ret
    exact ⟨ret_str (by rw [HR.out]; simp [cat]), (HU1.out.trans (Upd.pre ‹Upd [] (w1.drewN _) _›)).trans hu2⟩

theorem text_core (p : Nat) (a : Lab) (ks : List Tr) (l : Value) (w : World) (h : PtAt w p (psOf a l)) (ha : Sp.LabOK a) (hb : BareC p ⟨a, ks⟩ w) (hlen : (Sp.bareT ⟨a, ks⟩).length ≤ 4000000) : TextC p ⟨a, ks⟩ w := by
  have := ha.min0
  have := ha.max0
  by_cases c0 : a.min < 0
  · exact text_none p a ks l w h ha hb hlen c0
  by_cases c1 : a.max < 0
  · by_cases z0 : a.min = 0
    · exact text_star p a ks l w h ha hb hlen z0 c1
    by_cases z1 : a.min = 1
    · exact text_plus p a ks l w h ha hb hlen z1 c1
    · exact text_least p a ks l w h ha hb hlen (by omega) c1
  by_cases c2 : a.min = a.max
  · exact text_exact p a ks l w h ha hb hlen (by omega) c2
  by_cases c3 : a.min = 0 ∧ a.max = 1
  · exact text_quest p a ks l w h ha hb hlen c3.1 c3.2
  by_cases z0 : a.min = 0
  · exact text_both0 p a ks l w h ha hb hlen z0 (by omega) c2 (by omega) c3
  by_cases z1 : a.min = 1
  · exact text_both1 p a ks l w h ha hb hlen z1 (by omega) c2 (by omega) c3
  · exact text_both2 p a ks l w h ha hb hlen (by omega) (by omega) c2 (by omega) c3
end Go.Proofs.YtcpfpnjkfahjcaaDoor
