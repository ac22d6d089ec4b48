import Derived.Test.YtcpfpnjkfahjcaaDoorH26
set_option linter.unusedSimpArgs false
set_option linter.unusedVariables false
namespace Go.Proofs.YtcpfpnjkfahjcaaDoor
open Go.RowKit

theorem PartOut.from {r : Nat} {s : ByteArray} {i i' : Nat} {a d t t' : Int} {w w1 w' : World} {res : Sp.Res (Tr × Sp.At)} {k : Ending} (h : PartOut r s ⟨i', 0, a, d, t'⟩ w1 res k w') (u : Upd [r] w w1) : PartOut r s ⟨i, 0, a, d, t⟩ w res k w' := by
  obtain ⟨h1, h2⟩ := h
  refine ⟨u.trans h1, ?_⟩
  cases res with
  | ok v => obtain ⟨tr, y⟩ := v; obtain ⟨p, hk, hp, hr⟩ := h2; exact ⟨p, hk, PartsAt.mono _ _ _ _ hp (fun k hk _ => Nat.le_trans u.size hk), hr⟩
  | error v => obtain ⟨e, b⟩ := v; obtain ⟨he, p, j, t2, ps, hk, hp, hq, hr⟩ := h2; exact ⟨he, p, j, t2, ps, hk, Nat.le_trans u.size hp, hq, hr⟩

theorem PartOut.ret {r : Nat} {s : ByteArray} {x : RS} {w w' : World} {res : Sp.Res (Tr × Sp.At)} {k : Ending} (h : PartOut r s x w res k w') : ∃ v, k = .returned v := by
  obtain ⟨_, h2⟩ := h
  cases res with
  | ok v => obtain ⟨p, hk, _⟩ := h2; exact ⟨_, hk⟩
  | error v => obtain ⟨_, p, _, _, _, hk, _⟩ := h2; exact ⟨_, hk⟩

/-- A leaf that is new. -/
theorem leaf_ok {r : Nat} {s : ByteArray} {i j : Nat} {a d t : Int} {w w2 : World} {res : Sp.Res (Tr × Sp.At)} {l : Lab} (hq : res = .ok (⟨l, []⟩, ⟨j, t⟩)) (hu : Upd [r, w.heap.size] w w2) (hf : RdAt w2 r s ⟨j, 0, a, d, t⟩) (hp : PtAt w2 w.heap.size (psOf l (.slice none 0 0))) :
    PartOut r s ⟨i, 0, a, d, t⟩ w res (.returned (.pointer (some ⟨w.heap.size, 0, none⟩))) w2 := by
  subst hq
  refine ⟨(Upd.refl _ _).hide hu.swap (Nat.le_refl _), w.heap.size, rfl, ?_, hf⟩
  rw [PartsAt_cons]
  exact ⟨Nat.le_refl _, ⟨.slice none 0 0, [], hp, ⟨by simp, Or.inl ⟨rfl, rfl⟩⟩, (fun g hg => by cases hg), PartsAt_nil _ _⟩, PartsAt_nil _ _⟩
theorem leaf_no {r : Nat} {s : ByteArray} {i i' : Nat} {a d t t' e1 a1 : Int} {w w2 : World} {res : Sp.Res (Tr × Sp.At)} {ps : PS} (hq : res = .error (e1, a1)) (he : e1 ≠ 0) (hu : Upd [r, w.heap.size] w w2) (hf : RdAt w2 r s ⟨i', e1, a1, d, t'⟩) (hp : PtAt w2 w.heap.size ps) :
    PartOut r s ⟨i, 0, a, d, t⟩ w res (.returned (.pointer (some ⟨w.heap.size, 0, none⟩))) w2 := by
  subst hq
  exact ⟨(Upd.refl _ _).hide hu.swap (Nat.le_refl _), he, w.heap.size, i', t', ps, rfl, Nat.le_refl _, hp, hf⟩

def dLab : Lab := { Sp.blank with kind := 1, set := fun c => c == 10, not := true }
def bps : PS := { PS.zero with kind := 98, single := true, min := -1 }

theorem PtC.setSet {c : Array Value} {a : PS} (q : PtC c a) (k : Nat) (hk : k < 256) (v : Bool) : PtC (c.setIfInBounds (2 + k) (.bool v)) { a with set := fun i => if i = k then v else a.set i } := by
  refine ⟨by simp [q.size], (set_ne _ _ (by omega)).trans q.c0, (set_ne _ _ (by omega)).trans q.c1, fun i hi => ?_, (set_ne _ _ (by omega)).trans q.c258, (set_ne _ _ (by omega)).trans q.c259, (set_ne _ _ (by omega)).trans q.c260, (set_ne _ _ (by omega)).trans q.c261, (set_ne _ _ (by omega)).trans q.c262, (set_ne _ _ (by omega)).trans q.c263⟩
  by_cases e : i = k
  · subst e; rw [set_eq _ _ (by rw [q.size]; omega)]; simp
  · rw [set_ne _ _ (by omega), q.set i hi]; simp [e]
theorem PtC.congr {c : Array Value} {a : PS} (q : PtC c a) (f : Nat → Bool) (hf : ∀ i, i < 256 → f i = a.set i) : PtC c { a with set := f } :=
  ⟨q.size, q.c0, q.c1, fun i hi => (q.set i hi).trans (by simp [hf i hi]), q.c258, q.c259, q.c260, q.c261, q.c262, q.c263⟩
theorem PtAt.newAt {w : World} {c : Array Value} {a : PS} {n : Nat} (q : PtC c a) (hn : w.heap.size = n) : PtAt (w.alloc (.cells c 77)) n a := hn ▸ PtAt.new q
theorem size_setCell (w : World) (a : Addr) (v : Value) : (w.setCell a v).heap.size = w.heap.size := by simp [World.setCell]

/-- No atom begins here. -/
def NilOut (r : Nat) (s : ByteArray) (x : RS) (w : World) (k : Ending) (w' : World) : Prop := k = .returned (.pointer none) ∧ Upd [r] w w' ∧ RdAt w' r s x

set_option maxHeartbeats 400000 in
theorem atom_end (r : Nat) (s : ByteArray) (i : Nat) (a : Int) (d : Nat) (t : Int) (w : World) (h : RdAt w r s (⟨i, 0, a, d, t⟩ : RS)) (hs : s.size ≤ 200) (hi : ¬ i < s.size) :
    Calls Tryd.prog 48 #[.pointer (some ⟨r, 0, none⟩)] w (NilOut r s (⟨i, 0, a, d, t⟩ : RS) w) := by
  have hr := h.lt
  have hrp : r ≠ w.heap.size := by omega
  obtain ⟨c0, c1, c2, c3, c4, c5, fz⟩ := h.facts
  have hh : Hid (RdAt w r s (⟨i, 0, a, d, t⟩ : RS)) := h
  have hB : atB s (⟨i, 0, a, d, t⟩ : RS) = false := by rw [atB_ok rfl]; simpa using hi
  clear h
  go_enter Tryd.func48, Tryd.ntmps48
  go_wp2_with fail
  refine (at_any r s (⟨i, 0, a, d, t⟩ : RS) _ (by exact hh.out) hs).mono ?_
  rintro e w1 ⟨rfl, n, hw⟩
  have HH : Hid (RdAt w1 r s (⟨i, 0, a, d, t⟩ : RS)) := by rw [hw]; exact hh.out
  have HU : Hid (Upd [r] w w1) := by rw [hw]; exact drewN_upd _ _ _
  have hr1 : r < w1.heap.size := HH.out.lt
  have hrp1 : r ≠ w1.heap.size := by omega
  clear hw c0 c1 c2 c3 c4 c5 fz
  obtain ⟨c0, c1, c2, c3, c4, c5, fz⟩ := HH.out.facts
  go_wp2_with fail
  go_ret
  exact ⟨rfl, HU.out, HH.out⟩

set_option maxHeartbeats 400000 in
theorem atom_bar (r : Nat) (s : ByteArray) (i : Nat) (a : Int) (d : Nat) (t : Int) (w : World) (h : RdAt w r s (⟨i, 0, a, d, t⟩ : RS)) (hs : s.size ≤ 200) (hi : i < s.size) (hv : Sp.byteAt s i = 124) :
    Calls Tryd.prog 48 #[.pointer (some ⟨r, 0, none⟩)] w (NilOut r s (⟨i, 0, a, d, t⟩ : RS) w) := by
  have hr := h.lt
  have hrp : r ≠ w.heap.size := by omega
  obtain ⟨c0, c1, c2, c3, c4, c5, fz⟩ := h.facts
  have hh : Hid (RdAt w r s (⟨i, 0, a, d, t⟩ : RS)) := h
  have hB : atB s (⟨i, 0, a, d, t⟩ : RS) = true := by rw [atB_ok rfl]; simpa using hi
  have hV : atV s (⟨i, 0, a, d, t⟩ : RS) = 124 := by rw [atV_in hB]; exact hv
  clear h
  go_enter Tryd.func48, Tryd.ntmps48
  go_wp2_with fail
  refine (at_any r s (⟨i, 0, a, d, t⟩ : RS) _ (by exact hh.out) hs).mono ?_
  rintro e w1 ⟨rfl, n, hw⟩
  have HH : Hid (RdAt w1 r s (⟨i, 0, a, d, t⟩ : RS)) := by rw [hw]; exact hh.out
  have HU : Hid (Upd [r] w w1) := by rw [hw]; exact drewN_upd _ _ _
  have hr1 : r < w1.heap.size := HH.out.lt
  have hrp1 : r ≠ w1.heap.size := by omega
  clear hw c0 c1 c2 c3 c4 c5 fz
  obtain ⟨c0, c1, c2, c3, c4, c5, fz⟩ := HH.out.facts
  go_wp2_with fail
  refine (sign_any _ _).mono ?_
  rintro e w' ⟨rfl, rfl⟩
  go_wp2_with fail
  go_ret
  exact ⟨rfl, HU.out.alloc _, HH.out.alloc _⟩

set_option maxHeartbeats 400000 in
theorem atom_shut (r : Nat) (s : ByteArray) (i : Nat) (a : Int) (d : Nat) (t : Int) (w : World) (h : RdAt w r s (⟨i, 0, a, d, t⟩ : RS)) (hs : s.size ≤ 200) (hi : i < s.size) (hv : Sp.byteAt s i = 41) :
    Calls Tryd.prog 48 #[.pointer (some ⟨r, 0, none⟩)] w (NilOut r s (⟨i, 0, a, d, t⟩ : RS) w) := by
  have hr := h.lt
  have hrp : r ≠ w.heap.size := by omega
  obtain ⟨c0, c1, c2, c3, c4, c5, fz⟩ := h.facts
  have hh : Hid (RdAt w r s (⟨i, 0, a, d, t⟩ : RS)) := h
  have hB : atB s (⟨i, 0, a, d, t⟩ : RS) = true := by rw [atB_ok rfl]; simpa using hi
  have hV : atV s (⟨i, 0, a, d, t⟩ : RS) = 41 := by rw [atV_in hB]; exact hv
  clear h
  go_enter Tryd.func48, Tryd.ntmps48
  go_wp2_with fail
  refine (at_any r s (⟨i, 0, a, d, t⟩ : RS) _ (by exact hh.out) hs).mono ?_
  rintro e w1 ⟨rfl, n, hw⟩
  have HH : Hid (RdAt w1 r s (⟨i, 0, a, d, t⟩ : RS)) := by rw [hw]; exact hh.out
  have HU : Hid (Upd [r] w w1) := by rw [hw]; exact drewN_upd _ _ _
  have hr1 : r < w1.heap.size := HH.out.lt
  have hrp1 : r ≠ w1.heap.size := by omega
  clear hw c0 c1 c2 c3 c4 c5 fz
  obtain ⟨c0, c1, c2, c3, c4, c5, fz⟩ := HH.out.facts
  go_wp2_with fail
  refine (sign_any _ _).mono ?_
  rintro e w' ⟨rfl, rfl⟩
  go_wp2_with fail
  go_ret
  exact ⟨rfl, HU.out.alloc _, HH.out.alloc _⟩

set_option maxHeartbeats 400000 in
theorem atom_group (r : Nat) (s : ByteArray) (i : Nat) (a : Int) (d : Nat) (t : Int) (w : World) (h : RdAt w r s (⟨i, 0, a, d, t⟩ : RS)) (hs : s.size ≤ 200) (hi : i < s.size) (hv : Sp.byteAt s i = 40) (hd9 : d ≤ 8) (ht0 : 0 ≤ t) (ht9 : t ≤ 9) (k : Nat) (hsub : d < 8 → ChoiceC k) (hk : (d : Int) = 8 - (k : Int)) :
    Calls Tryd.prog 48 #[.pointer (some ⟨r, 0, none⟩)] w (PartOut r s (⟨i, 0, a, d, t⟩ : RS) w (Sp.atom (Sp.choice s k) s d ⟨i, t⟩)) := by
  have hr := h.lt
  have hrp : r ≠ w.heap.size := by omega
  obtain ⟨c0, c1, c2, c3, c4, c5, fz⟩ := h.facts
  have hh : Hid (RdAt w r s (⟨i, 0, a, d, t⟩ : RS)) := h
  have HR : Hid (Sp.atom (Sp.choice s k) s d ⟨i, t⟩ = Sp.group (Sp.choice s k) s d ⟨i, t⟩) := by show _ = _; unfold Sp.atom; simp [isAt_ok hi, hv]
  have HK : Hid ((d : Int) = 8 - (k : Int)) := hk
  clear hk
  have hB : atB s (⟨i, 0, a, d, t⟩ : RS) = true := by rw [atB_ok rfl]; simpa using hi
  have hV : atV s (⟨i, 0, a, d, t⟩ : RS) = 40 := by rw [atV_in hB]; exact hv
  clear h
  go_enter Tryd.func48, Tryd.ntmps48
  go_wp2_with fail
  refine (at_any r s (⟨i, 0, a, d, t⟩ : RS) _ (by exact hh.out) hs).mono ?_
  rintro e w1 ⟨rfl, n, hw⟩
  have HH : Hid (RdAt w1 r s (⟨i, 0, a, d, t⟩ : RS)) := by rw [hw]; exact hh.out
  have HU : Hid (Upd [r] w w1) := by rw [hw]; exact drewN_upd _ _ _
  have hr1 : r < w1.heap.size := HH.out.lt
  have hrp1 : r ≠ w1.heap.size := by omega
  clear hw c0 c1 c2 c3 c4 c5 fz
  obtain ⟨c0, c1, c2, c3, c4, c5, fz⟩ := HH.out.facts
  go_wp2_with fail
  refine (sign_any _ _).mono ?_
  rintro e w' ⟨rfl, rfl⟩
  go_wp2_with fail
  refine (group_any r s i a d t _ (by first | exact (HH.out.set1 (i + 1)).alloc _ | exact (HH.out.alloc _).set1 (i + 1)) hs hi hd9 ht0 ht9 k hsub HK.out).mono ?_
  intro e w5 hq5
  have HO : Hid (PartOut r s (⟨i, 0, a, d, t⟩ : RS) w (Sp.atom (Sp.choice s k) s d ⟨i, t⟩) e w5) := by rw [HR.out]; exact hq5.from (by refine Upd.trans HU.out ?_; (repeat (first | exact Upd.refl _ _ | refine Upd.drewN ?_ | refine Upd.drew ?_ | refine Upd.setCell ?_ (by simp) _ | refine Upd.alloc ?_ _)))
  obtain ⟨v, rfl⟩ : ∃ v, e = .returned v := PartOut.ret hq5
  clear hq5
  go_wp2_with fail
  go_ret
  exact HO.out

set_option maxHeartbeats 400000 in
theorem atom_list (r : Nat) (s : ByteArray) (i : Nat) (a : Int) (d : Nat) (t : Int) (w : World) (h : RdAt w r s (⟨i, 0, a, d, t⟩ : RS)) (hs : s.size ≤ 200) (hi : i < s.size) (hv : Sp.byteAt s i = 91) (k : Nat) :
    Calls Tryd.prog 48 #[.pointer (some ⟨r, 0, none⟩)] w (PartOut r s (⟨i, 0, a, d, t⟩ : RS) w (Sp.atom (Sp.choice s k) s d ⟨i, t⟩)) := by
  have hr := h.lt
  have hrp : r ≠ w.heap.size := by omega
  obtain ⟨c0, c1, c2, c3, c4, c5, fz⟩ := h.facts
  have hh : Hid (RdAt w r s (⟨i, 0, a, d, t⟩ : RS)) := h
  have HR : Hid (Sp.atom (Sp.choice s k) s d ⟨i, t⟩ = listR s ⟨i + 1, 0, a, d, t⟩) := by show _ = _; unfold Sp.atom; simp [isAt_ok hi, hv]; rfl
  have hB : atB s (⟨i, 0, a, d, t⟩ : RS) = true := by rw [atB_ok rfl]; simpa using hi
  have hV : atV s (⟨i, 0, a, d, t⟩ : RS) = 91 := by rw [atV_in hB]; exact hv
  clear h
  go_enter Tryd.func48, Tryd.ntmps48
  go_wp2_with fail
  refine (at_any r s (⟨i, 0, a, d, t⟩ : RS) _ (by exact hh.out) hs).mono ?_
  rintro e w1 ⟨rfl, n, hw⟩
  have HH : Hid (RdAt w1 r s (⟨i, 0, a, d, t⟩ : RS)) := by rw [hw]; exact hh.out
  have HU : Hid (Upd [r] w w1) := by rw [hw]; exact drewN_upd _ _ _
  have hr1 : r < w1.heap.size := HH.out.lt
  have hrp1 : r ≠ w1.heap.size := by omega
  clear hw c0 c1 c2 c3 c4 c5 fz
  obtain ⟨c0, c1, c2, c3, c4, c5, fz⟩ := HH.out.facts
  go_wp2_with fail
  refine (sign_any _ _).mono ?_
  rintro e w' ⟨rfl, rfl⟩
  go_wp2_with fail
  refine (list_any r s ⟨i + 1, 0, a, d, t⟩ _ (by first | exact (HH.out.set1 (i + 1)).alloc _ | exact (HH.out.alloc _).set1 (i + 1)) hs rfl (by exact hi)).mono ?_
  intro e w5 hq5
  have HO : Hid (PartOut r s (⟨i, 0, a, d, t⟩ : RS) w (Sp.atom (Sp.choice s k) s d ⟨i, t⟩) e w5) := by rw [HR.out]; exact hq5.from (by refine Upd.trans HU.out ?_; (repeat (first | exact Upd.refl _ _ | refine Upd.drewN ?_ | refine Upd.drew ?_ | refine Upd.setCell ?_ (by simp) _ | refine Upd.alloc ?_ _)))
  obtain ⟨v, rfl⟩ : ∃ v, e = .returned v := PartOut.ret hq5
  clear hq5
  go_wp2_with fail
  go_ret
  exact HO.out

set_option maxHeartbeats 400000 in
theorem atom_dot (r : Nat) (s : ByteArray) (i : Nat) (a : Int) (d : Nat) (t : Int) (w : World) (h : RdAt w r s (⟨i, 0, a, d, t⟩ : RS)) (hs : s.size ≤ 200) (hi : i < s.size) (hv : Sp.byteAt s i = 46) (k : Nat) :
    Calls Tryd.prog 48 #[.pointer (some ⟨r, 0, none⟩)] w (PartOut r s (⟨i, 0, a, d, t⟩ : RS) w (Sp.atom (Sp.choice s k) s d ⟨i, t⟩)) := by
  have hr := h.lt
  have hrp : r ≠ w.heap.size := by omega
  obtain ⟨c0, c1, c2, c3, c4, c5, fz⟩ := h.facts
  have hh : Hid (RdAt w r s (⟨i, 0, a, d, t⟩ : RS)) := h
  have HR : Hid (Sp.atom (Sp.choice s k) s d ⟨i, t⟩ = .ok (⟨dLab, []⟩, ⟨i + 1, t⟩)) := by show _ = _; unfold Sp.atom; simp [isAt_ok hi, hv]; rfl
  have hB : atB s (⟨i, 0, a, d, t⟩ : RS) = true := by rw [atB_ok rfl]; simpa using hi
  have hV : atV s (⟨i, 0, a, d, t⟩ : RS) = 46 := by rw [atV_in hB]; exact hv
  clear h
  go_enter Tryd.func48, Tryd.ntmps48
  go_wp2_with fail
  refine (at_any r s (⟨i, 0, a, d, t⟩ : RS) _ (by exact hh.out) hs).mono ?_
  rintro e w1 ⟨rfl, n, hw⟩
  have HH : Hid (RdAt w1 r s (⟨i, 0, a, d, t⟩ : RS)) := by rw [hw]; exact hh.out
  have HU : Hid (Upd [r] w w1) := by rw [hw]; exact drewN_upd _ _ _
  have hr1 : r < w1.heap.size := HH.out.lt
  have hrp1 : r ≠ w1.heap.size := by omega
  clear hw c0 c1 c2 c3 c4 c5 fz
  obtain ⟨c0, c1, c2, c3, c4, c5, fz⟩ := HH.out.facts
  have hpn : Hid (PtAt (w1.alloc (.cells (((Tryd.zeroCells77.setIfInBounds 0 (.int .u8 98)).setIfInBounds 260 (.bool true)).setIfInBounds 262 (.int .i64 (-1))) 77)) w1.heap.size bps) := PtAt.new (((PtC.zero.set0 98).set260 true).set262 (-1))
  go_wp2_with fail
  refine (sign_any _ _).mono ?_
  rintro e w' ⟨rfl, rfl⟩
  go_wp2_with fail
  go_ret
  refine PartOut.from (leaf_ok (i := i) (w := w1) (j := i + 1) (l := dLab) HR.out (by (repeat (first | exact Upd.refl _ _ | refine Upd.drewN ?_ | refine Upd.drew ?_ | refine Upd.setCell ?_ (by simp) _ | refine Upd.alloc ?_ _))) (by exact (HH.out.set1 (i + 1)).alloc _) ?_) HU.out
  exact PtAt.newAt (((((((((PtC.zero.set0 98).set260 true).set262 (-1)).set259 true).set260 false).set258 true).setSet 10 (by decide) true).congr _ (fun q _ => by unfold dLab; simp [PS.zero, Bool.beq_eq_decide_eq]))) (size_setCell _ _ _)

set_option maxHeartbeats 400000 in
theorem atom_byte (r : Nat) (s : ByteArray) (i : Nat) (a : Int) (d : Nat) (t : Int) (w : World) (h : RdAt w r s (⟨i, 0, a, d, t⟩ : RS)) (hs : s.size ≤ 200) (hi : i < s.size) (n1 : Sp.byteAt s i ≠ 40) (n2 : Sp.byteAt s i ≠ 91) (n3 : Sp.byteAt s i ≠ 46) (n4 : Sp.byteAt s i ≠ 92) (n5 : Sp.byteAt s i ≠ 124) (n6 : Sp.byteAt s i ≠ 41) (hg : Sp.sign (Sp.byteAt s i) = false) (k : Nat) :
    Calls Tryd.prog 48 #[.pointer (some ⟨r, 0, none⟩)] w (PartOut r s (⟨i, 0, a, d, t⟩ : RS) w (Sp.atom (Sp.choice s k) s d ⟨i, t⟩)) := by
  have hr := h.lt
  have hrp : r ≠ w.heap.size := by omega
  obtain ⟨c0, c1, c2, c3, c4, c5, fz⟩ := h.facts
  have hh : Hid (RdAt w r s (⟨i, 0, a, d, t⟩ : RS)) := h
  have HR : Hid (Sp.atom (Sp.choice s k) s d ⟨i, t⟩ = .ok (⟨bLab (Sp.byteAt s i), []⟩, ⟨i + 1, t⟩)) := by show _ = _; unfold Sp.atom; simp [isAt_ok hi, isAt_out, n1, n2, n3]; simp [Sp.byteBut, isAt_ok hi, n4, hi, hg]; rfl
  have hB : atB s (⟨i, 0, a, d, t⟩ : RS) = true := by rw [atB_ok rfl]; simpa using hi
  have HV : Hid (atV s (⟨i, 0, a, d, t⟩ : RS) = Sp.byteAt s i) := atV_in hB
  have g1 : (atV s (⟨i, 0, a, d, t⟩ : RS) == 40) = false := by rw [HV.out]; simpa using n1
  have g2 : (atV s (⟨i, 0, a, d, t⟩ : RS) == 91) = false := by rw [HV.out]; simpa using n2
  have g3 : (atV s (⟨i, 0, a, d, t⟩ : RS) == 46) = false := by rw [HV.out]; simpa using n3
  have g4 : (atV s (⟨i, 0, a, d, t⟩ : RS) == 92) = false := by rw [HV.out]; simpa using n4
  have g5 : (atV s (⟨i, 0, a, d, t⟩ : RS) == 124) = false := by rw [HV.out]; simpa using n5
  have g6 : (atV s (⟨i, 0, a, d, t⟩ : RS) == 41) = false := by rw [HV.out]; simpa using n6
  have g7 : Sp.sign (atV s (⟨i, 0, a, d, t⟩ : RS)) = false := by rw [HV.out]; exact hg
  have b0 := atV_lo s (⟨i, 0, a, d, t⟩ : RS)
  have b1 := atV_hi s (⟨i, 0, a, d, t⟩ : RS)
  clear n1 n2 n3 n4 n5 n6 hg
  clear h
  go_enter Tryd.func48, Tryd.ntmps48
  go_wp2_with fail
  refine (at_any r s (⟨i, 0, a, d, t⟩ : RS) _ (by exact hh.out) hs).mono ?_
  rintro e w1 ⟨rfl, n, hw⟩
  have HH : Hid (RdAt w1 r s (⟨i, 0, a, d, t⟩ : RS)) := by rw [hw]; exact hh.out
  have HU : Hid (Upd [r] w w1) := by rw [hw]; exact drewN_upd _ _ _
  have hr1 : r < w1.heap.size := HH.out.lt
  have hrp1 : r ≠ w1.heap.size := by omega
  clear hw c0 c1 c2 c3 c4 c5 fz
  obtain ⟨c0, c1, c2, c3, c4, c5, fz⟩ := HH.out.facts
  have hpn : Hid (PtAt (w1.alloc (.cells (((Tryd.zeroCells77.setIfInBounds 0 (.int .u8 98)).setIfInBounds 260 (.bool true)).setIfInBounds 262 (.int .i64 (-1))) 77)) w1.heap.size bps) := PtAt.new (((PtC.zero.set0 98).set260 true).set262 (-1))
  go_wp2_with fail
  refine (sign_any _ _).mono ?_
  rintro e w3 ⟨rfl, hw3⟩
  have HP3 : Hid (PtAt w3 w1.heap.size bps) := by rw [hw3]; exact hpn.out
  have HU3 : Hid (Upd [r, w1.heap.size] w1 w3) := by rw [hw3]; exact (Upd.refl _ _).alloc _
  have HF3 : Hid (RdAt w3 r s (⟨i, 0, a, d, t⟩ : RS)) := by rw [hw3]; exact HH.out.alloc _
  have hcell := HP3.out.setFact (atV s (⟨i, 0, a, d, t⟩ : RS)).toNat (by omega)
  have hpz := HP3.out.facts.fz
  clear hw3 c0 c1 c2 c3 c4 c5 fz
  obtain ⟨c0, c1, c2, c3, c4, c5, fz⟩ := HF3.out.facts
  go_wp2_with fail
  go_ret
  refine PartOut.from (leaf_ok (i := i) (w := w1) (j := i + 1) (l := bLab (Sp.byteAt s i)) HR.out ((HU3.out.setCell (p := ⟨r, 1, none⟩) (by simp) _).setCell (by simp) _) (by exact (HF3.out.set1 (i + 1)).other hrp1 _ _) ?_) HU.out
  exact ((HP3.out.other hrp1.symm 1 _).setSet (atV s (⟨i, 0, a, d, t⟩ : RS)).toNat (by omega) true).congr _ (fun q _ => by unfold bLab; rw [HV.out]; simp [bps, PS.zero, Bool.beq_eq_decide_eq])

set_option maxHeartbeats 400000 in
theorem atom_sign (r : Nat) (s : ByteArray) (i : Nat) (a : Int) (d : Nat) (t : Int) (w : World) (h : RdAt w r s (⟨i, 0, a, d, t⟩ : RS)) (hs : s.size ≤ 200) (hi : i < s.size) (n1 : Sp.byteAt s i ≠ 40) (n2 : Sp.byteAt s i ≠ 91) (n3 : Sp.byteAt s i ≠ 46) (n4 : Sp.byteAt s i ≠ 92) (n5 : Sp.byteAt s i ≠ 124) (n6 : Sp.byteAt s i ≠ 41) (hg : Sp.sign (Sp.byteAt s i) = true) (k : Nat) :
    Calls Tryd.prog 48 #[.pointer (some ⟨r, 0, none⟩)] w (PartOut r s (⟨i, 0, a, d, t⟩ : RS) w (Sp.atom (Sp.choice s k) s d ⟨i, t⟩)) := by
  have hr := h.lt
  have hrp : r ≠ w.heap.size := by omega
  obtain ⟨c0, c1, c2, c3, c4, c5, fz⟩ := h.facts
  have hh : Hid (RdAt w r s (⟨i, 0, a, d, t⟩ : RS)) := h
  have HR : Hid (Sp.atom (Sp.choice s k) s d ⟨i, t⟩ = .error (3, i)) := by show _ = _; unfold Sp.atom; simp [isAt_ok hi, isAt_out, n1, n2, n3]; simp [Sp.byteBut, isAt_ok hi, n4, hi, hg]
  have hB : atB s (⟨i, 0, a, d, t⟩ : RS) = true := by rw [atB_ok rfl]; simpa using hi
  have HV : Hid (atV s (⟨i, 0, a, d, t⟩ : RS) = Sp.byteAt s i) := atV_in hB
  have g1 : (atV s (⟨i, 0, a, d, t⟩ : RS) == 40) = false := by rw [HV.out]; simpa using n1
  have g2 : (atV s (⟨i, 0, a, d, t⟩ : RS) == 91) = false := by rw [HV.out]; simpa using n2
  have g3 : (atV s (⟨i, 0, a, d, t⟩ : RS) == 46) = false := by rw [HV.out]; simpa using n3
  have g4 : (atV s (⟨i, 0, a, d, t⟩ : RS) == 92) = false := by rw [HV.out]; simpa using n4
  have g5 : (atV s (⟨i, 0, a, d, t⟩ : RS) == 124) = false := by rw [HV.out]; simpa using n5
  have g6 : (atV s (⟨i, 0, a, d, t⟩ : RS) == 41) = false := by rw [HV.out]; simpa using n6
  have g7 : Sp.sign (atV s (⟨i, 0, a, d, t⟩ : RS)) = true := by rw [HV.out]; exact hg
  have b0 := atV_lo s (⟨i, 0, a, d, t⟩ : RS)
  have b1 := atV_hi s (⟨i, 0, a, d, t⟩ : RS)
  clear n1 n2 n3 n4 n5 n6 hg
  clear h
  go_enter Tryd.func48, Tryd.ntmps48
  go_wp2_with fail
  refine (at_any r s (⟨i, 0, a, d, t⟩ : RS) _ (by exact hh.out) hs).mono ?_
  rintro e w1 ⟨rfl, n, hw⟩
  have HH : Hid (RdAt w1 r s (⟨i, 0, a, d, t⟩ : RS)) := by rw [hw]; exact hh.out
  have HU : Hid (Upd [r] w w1) := by rw [hw]; exact drewN_upd _ _ _
  have hr1 : r < w1.heap.size := HH.out.lt
  have hrp1 : r ≠ w1.heap.size := by omega
  clear hw c0 c1 c2 c3 c4 c5 fz
  obtain ⟨c0, c1, c2, c3, c4, c5, fz⟩ := HH.out.facts
  have hpn : Hid (PtAt (w1.alloc (.cells (((Tryd.zeroCells77.setIfInBounds 0 (.int .u8 98)).setIfInBounds 260 (.bool true)).setIfInBounds 262 (.int .i64 (-1))) 77)) w1.heap.size bps) := PtAt.new (((PtC.zero.set0 98).set260 true).set262 (-1))
  go_wp2_with fail
  refine (sign_any _ _).mono ?_
  rintro e w' ⟨rfl, rfl⟩
  go_wp2_with fail
  refine (fail_any r s (⟨i, 0, a, d, t⟩ : RS) _ _ _ (by exact HH.out.alloc _)).mono ?_
  rw [RS.fail_ok rfl]
  rintro e w3 ⟨rfl, hu3, hf3⟩
  have HP3 : Hid (PtAt w3 w1.heap.size bps) := hpn.out.upd hu3 (by simpa using hrp1.symm)
  have HU3 : Hid (Upd [r, w1.heap.size] w1 w3) := ((Upd.refl _ _).alloc _).trans hu3.one
  have HF3 : Hid (RdAt w3 r s ⟨i, 3, i, d, t⟩) := hf3
  have hcell := HP3.out.setFact (atV s (⟨i, 0, a, d, t⟩ : RS)).toNat (by omega)
  have hpz := HP3.out.facts.fz
  clear hu3 hf3
  go_wp2_with fail
  go_ret
  exact PartOut.from (leaf_no (i := i) (t := t) (w := w1) HR.out (by decide) (HU3.out.setCell (by simp) _) (HF3.out.other hrp1 _ _) (HP3.out.setSet (atV s (⟨i, 0, a, d, t⟩ : RS)).toNat (by omega) true)) HU.out

set_option maxHeartbeats 400000 in
theorem atom_escape (r : Nat) (s : ByteArray) (i : Nat) (a : Int) (d : Nat) (t : Int) (w : World) (h : RdAt w r s (⟨i, 0, a, d, t⟩ : RS)) (hs : s.size ≤ 200) (hi : i < s.size) (hv : Sp.byteAt s i = 92) (k : Nat) :
    Calls Tryd.prog 48 #[.pointer (some ⟨r, 0, none⟩)] w (PartOut r s (⟨i, 0, a, d, t⟩ : RS) w (Sp.atom (Sp.choice s k) s d ⟨i, t⟩)) := by
  have hr := h.lt
  have hrp : r ≠ w.heap.size := by omega
  obtain ⟨c0, c1, c2, c3, c4, c5, fz⟩ := h.facts
  have hh : Hid (RdAt w r s (⟨i, 0, a, d, t⟩ : RS)) := h
  have HR : Hid (Sp.atom (Sp.choice s k) s d ⟨i, t⟩ = match Sp.escape s (i + 1) with | .error f => .error f | .ok (b, j) => .ok (⟨bLab b, []⟩, ⟨j, t⟩)) := by show _ = _; unfold Sp.atom; simp [isAt_ok hi, hv]; simp [Sp.byteBut, isAt_ok hi, hv]; rfl
  have hB : atB s (⟨i, 0, a, d, t⟩ : RS) = true := by rw [atB_ok rfl]; simpa using hi
  have hV : atV s (⟨i, 0, a, d, t⟩ : RS) = 92 := by rw [atV_in hB]; exact hv
  clear h
  go_enter Tryd.func48, Tryd.ntmps48
  go_wp2_with fail
  refine (at_any r s (⟨i, 0, a, d, t⟩ : RS) _ (by exact hh.out) hs).mono ?_
  rintro e w1 ⟨rfl, n, hw⟩
  have HH : Hid (RdAt w1 r s (⟨i, 0, a, d, t⟩ : RS)) := by rw [hw]; exact hh.out
  have HU : Hid (Upd [r] w w1) := by rw [hw]; exact drewN_upd _ _ _
  have hr1 : r < w1.heap.size := HH.out.lt
  have hrp1 : r ≠ w1.heap.size := by omega
  clear hw c0 c1 c2 c3 c4 c5 fz
  obtain ⟨c0, c1, c2, c3, c4, c5, fz⟩ := HH.out.facts
  go_wp2_with fail
  refine (sign_any _ _).mono ?_
  rintro e w' ⟨rfl, rfl⟩
  go_wp2_with fail
  refine (escape_any r s ⟨i + 1, 0, a, d, t⟩ _ (by first | exact (HH.out.set1 (i + 1)).alloc _ | exact (HH.out.alloc _).set1 (i + 1)) hs rfl).mono ?_
  rintro e w3 ⟨hu3, hq3⟩
  have hpn' : PtAt ((w1.setCell ⟨r, 1, none⟩ (.int .i64 (i + 1))).alloc (.cells (((Tryd.zeroCells77.setIfInBounds 0 (.int .u8 98)).setIfInBounds 260 (.bool true)).setIfInBounds 262 (.int .i64 (-1))) 77)) w1.heap.size bps := PtAt.newAt (((PtC.zero.set0 98).set260 true).set262 (-1)) (size_setCell _ _ _)
  have HP3 : Hid (PtAt w3 w1.heap.size bps) := hpn'.upd hu3 (by simpa using hrp1.symm)
  have HU3 : Hid (Upd [r, w1.heap.size] w1 w3) := (by refine Upd.trans ?_ hu3.one; (repeat (first | exact Upd.refl _ _ | refine Upd.drewN ?_ | refine Upd.drew ?_ | refine Upd.setCell ?_ (by simp) _ | refine Upd.alloc ?_ _)) : Upd [r, w1.heap.size] w1 w3)
  have hpz := HP3.out.facts.fz
  clear hu3 hpn'
  revert hq3
  cases hr3 : Sp.escape s (i + 1)
  case error f =>
    obtain ⟨e1, a1⟩ := f
    rintro ⟨v, i', h0, h1, rfl, hf3⟩
    have HE1 : Hid (e1 ≠ 0) := by show _ ≠ _; rw [escape_err hr3]; decide
    have HR' : Hid (Sp.atom (Sp.choice s k) s d ⟨i, t⟩ = .error (e1, a1)) := by show _ = _; rw [HR.out, hr3]
    have hcell := HP3.out.setFact v.toNat (by omega)
    have HF3 : Hid (RdAt w3 r s ⟨i', e1, a1, d, t⟩) := hf3
    clear hr3 hf3
    go_wp2_with fail
    go_ret
    exact PartOut.from (leaf_no (i := i) (t := t) (w := w1) HR'.out HE1.out (HU3.out.setCell (by simp) _) (HF3.out.other hrp1 _ _) (HP3.out.setSet v.toNat (by omega) true)) HU.out
  case ok f =>
    obtain ⟨v, j⟩ := f
    rintro ⟨rfl, hf3⟩
    obtain ⟨h0, h1, _, _⟩ := escape_ok hr3
    have HR' : Hid (Sp.atom (Sp.choice s k) s d ⟨i, t⟩ = .ok (⟨bLab v, []⟩, ⟨j, t⟩)) := by show _ = _; rw [HR.out, hr3]
    have hcell := HP3.out.setFact v.toNat (by omega)
    have HF3 : Hid (RdAt w3 r s ⟨j, 0, a, d, t⟩) := hf3
    clear hr3 hf3
    go_wp2_with fail
    go_ret
    refine PartOut.from (leaf_ok (i := i) (w := w1) (j := j) (l := bLab v) HR'.out (HU3.out.setCell (by simp) _) (HF3.out.other hrp1 _ _) ?_) HU.out
    exact (HP3.out.setSet v.toNat (by omega) true).congr _ (fun q _ => by unfold bLab; simp [bps, PS.zero, Bool.beq_eq_decide_eq])

theorem over_iff {s : ByteArray} {i : Nat} (h : Sp.over s i = false) : i < s.size ∧ Sp.byteAt s i ≠ 124 ∧ Sp.byteAt s i ≠ 41 := by
  simp [Sp.over, Sp.isAt] at h
  exact ⟨by omega, h.1.2 (by omega), h.2 (by omega)⟩

theorem atom_any (r : Nat) (s : ByteArray) (i : Nat) (a : Int) (d : Nat) (t : Int) (w : World) (h : RdAt w r s (⟨i, 0, a, d, t⟩ : RS)) (hs : s.size ≤ 200) (hd9 : d ≤ 8) (ht0 : 0 ≤ t) (ht9 : t ≤ 9) (k : Nat) (hsub : d < 8 → ChoiceC k) (hk : (d : Int) = 8 - (k : Int)) (ho : Sp.over s i = false) :
    Calls Tryd.prog 48 #[.pointer (some ⟨r, 0, none⟩)] w (PartOut r s (⟨i, 0, a, d, t⟩ : RS) w (Sp.atom (Sp.choice s k) s d ⟨i, t⟩)) := by
  obtain ⟨hi, n5, n6⟩ := over_iff ho
  by_cases n1 : Sp.byteAt s i = 40
  · exact atom_group r s i a d t w h hs hi n1 hd9 ht0 ht9 k hsub hk
  by_cases n2 : Sp.byteAt s i = 91
  · exact atom_list r s i a d t w h hs hi n2 k
  by_cases n3 : Sp.byteAt s i = 46
  · exact atom_dot r s i a d t w h hs hi n3 k
  by_cases n4 : Sp.byteAt s i = 92
  · exact atom_escape r s i a d t w h hs hi n4 k
  by_cases hg : Sp.sign (Sp.byteAt s i) = true
  · exact atom_sign r s i a d t w h hs hi n1 n2 n3 n4 n5 n6 hg k
  · exact atom_byte r s i a d t w h hs hi n1 n2 n3 n4 n5 n6 (by simpa using hg) k

theorem atom_over (r : Nat) (s : ByteArray) (i : Nat) (a : Int) (d : Nat) (t : Int) (w : World) (h : RdAt w r s (⟨i, 0, a, d, t⟩ : RS)) (hs : s.size ≤ 200) (ho : Sp.over s i = true) :
    Calls Tryd.prog 48 #[.pointer (some ⟨r, 0, none⟩)] w (NilOut r s (⟨i, 0, a, d, t⟩ : RS) w) := by
  by_cases hi : i < s.size
  · by_cases h1 : Sp.byteAt s i = 124
    · exact atom_bar r s i a d t w h hs hi h1
    by_cases h2 : Sp.byteAt s i = 41
    · exact atom_shut r s i a d t w h hs hi h2
    · simp [Sp.over, Sp.isAt, hi, h1, h2] at ho; omega
  · exact atom_end r s i a d t w h hs hi

end Go.Proofs.YtcpfpnjkfahjcaaDoor
