import Derived.Test.YtcpfpnjkfahjcaaGreatH35
set_option linter.unusedSimpArgs false
set_option linter.unusedVariables false
namespace Go.Proofs.YtcpfpnjkfahjcaaGreat
open Go.RowKit

theorem PartsAt.upd {l : List Nat} {w w' : World} {S : Nat → Prop} {ps : List Nat} {ts : List Tr} (h : PartsAt w S ps ts) (u : Upd l w w') (hl : ∀ k, k ∈ l → ¬ S k) : PartsAt w' S ps ts :=
  PartsAt.same S ps ts h (fun k hk hs => u.block k hs (fun q => hl k q hk))

/-- What the contract of a choice at a depth is. -/
def ChoiceC (k : Nat) : Prop := ∀ (r : Nat) (s : ByteArray) (x : RS) (w : World), RdAt w r s x → s.size ≤ 200 → x.e = 0 → x.i ≤ s.size → x.d = 9 - (k : Int) → 0 ≤ x.t → x.t ≤ 9 →
  Calls Tryz.prog 43 #[.pointer (some ⟨r, 0, none⟩)] w (PartOut r s x w (Sp.choice s k ⟨x.i, x.t⟩))

/-- What a call leaves that comes behind an error. -/
def ErrOut (r : Nat) (s : ByteArray) (x : RS) (w : World) (k : Ending) (w' : World) : Prop := Upd [] w w' ∧ ∃ p ps, k = .returned (ptr p) ∧ w.heap.size ≤ p ∧ PtAt w' p ps

set_option maxHeartbeats 400000 in
theorem choice_err (r : Nat) (s : ByteArray) (x : RS) (w : World) (h : RdAt w r s x) (he : x.e ≠ 0) :
    Calls Tryz.prog 43 #[.pointer (some ⟨r, 0, none⟩)] w (ErrOut r s x w) := by
  have hr := h.lt
  have hrp : r ≠ w.heap.size := by omega
  have h' := h.alloc (.cells ((Tryz.zeroCells126.setIfInBounds 0 (.int .u8 124)).setIfInBounds 262 (.int .i64 (-1))) 126)
  obtain ⟨c0, c1, c2, c3, c4, c5, fz⟩ := h'.facts
  have hb : (x.e == 0) = false := by simpa using he
  clear h h' he
  go_enter Tryz.func43, Tryz.ntmps43
  go_wp2_with fail
  refine wp_loop_rounds 1 ?_
  rw [rounds_succ]
  go_wp2_with fail
  go_ret
  exact ⟨by (repeat (first | exact Upd.refl _ _ | refine Upd.drewN ?_ | refine Upd.drew ?_ | refine Upd.setCell ?_ (by simp) _ | refine Upd.alloc ?_ _)), _, _, rfl, Nat.le_refl _, PtAt.new ((PtC.zero.set0 124).set262 (-1))⟩

/-- A group that has failed. -/
theorem group_no {r : Nat} {s : ByteArray} {i0 i' : Nat} {a d t t' e1 a1 : Int} {w w2 : World} {res : Sp.Res (Tr × Sp.At)} {ps : PS} (hq : res = .error (e1, a1)) (he : e1 ≠ 0)
    (hu : Upd [r, w.heap.size] w w2) (hf : RdAt w2 r s ⟨i', e1, a1, d, t'⟩) (hp : PtAt w2 w.heap.size ps) : PartOut r s ⟨i0 + 1, 0, a, d, t⟩ w res (.returned (.pointer (some ⟨w.heap.size, 0, none⟩))) w2 := by
  subst hq
  exact ⟨(Upd.refl _ _).hide hu.swap (Nat.le_refl _), he, w.heap.size, i', t', ps, rfl, Nat.le_refl _, hp, hf⟩

def gLab (b : Bool) (kk : Nat) : Lab := { Sp.blank with kind := 3, told := b, num := kk }

theorem group_ok {r : Nat} {s : ByteArray} {i0 j : Nat} {a d t t1 : Int} {w w2 : World} {res : Sp.Res (Tr × Sp.At)} {b : Bool} {kk : Nat} {tr : Tr} {c g : Nat} (hq : res = .ok (⟨gLab b kk, [tr]⟩, ⟨j, t1⟩))
    (hu : Upd [r, w.heap.size] w w2) (hf : RdAt w2 r s ⟨j, 0, a, d, t1⟩) (hp : PtAt w2 w.heap.size (psOf (gLab b kk) (.slice (some ⟨g, 0, none⟩) 1 1))) (hgp : w.heap.size < g)
    (hg : w2.heap[g]? = some (.cells #[ptr c] 74 (0, 0))) (hc : PartsAt w2 (fun k => w.heap.size < k ∧ k < g) [c] [tr]) : PartOut r s ⟨i0 + 1, 0, a, d, t⟩ w res (.returned (.pointer (some ⟨w.heap.size, 0, none⟩))) w2 := by
  subst hq
  refine ⟨(Upd.refl _ _).hide hu.swap (Nat.le_refl _), w.heap.size, rfl, ?_, hf⟩
  rw [PartsAt_cons]
  refine ⟨Nat.le_refl _, ⟨_, [c], hp, ⟨by simp, Or.inr ⟨g, 1, _, rfl, by omega, hg, by simp, by decide, by simp, by simp⟩⟩, fun g' hg' => by simp [Value.ownBlock] at hg'; omega, ?_⟩, PartsAt_nil _ _⟩
  refine PartsAt.mono _ _ _ _ hc (fun k hk _ => ⟨by omega, hk.1, ?_⟩)
  intro e; simp [Value.ownBlock] at e; omega

set_option maxHeartbeats 400000 in
theorem group_deep (r : Nat) (s : ByteArray) (i0 : Nat) (a : Int) (d : Nat) (t : Int) (w : World) (sub : Sp.At → Sp.Res (Tr × Sp.At)) (h : RdAt w r s ⟨i0 + 1, 0, a, d, t⟩) (hs : s.size ≤ 200) (hi : i0 + 1 ≤ s.size) (hd9 : d ≤ 8) (ht0 : 0 ≤ t) (ht9 : t ≤ 9) (hd8 : 8 ≤ d) :
    Calls Tryz.prog 109 #[.pointer (some ⟨r, 0, none⟩)] w (PartOut r s ⟨i0 + 1, 0, a, d, t⟩ w (Sp.group sub s d ⟨i0, t⟩)) := by
  have hr := h.lt
  have hrp : r ≠ w.heap.size := by omega
  have HR : Hid (Sp.group sub s d ⟨i0, t⟩ = .error (5, i0)) := by show _ = _; unfold Sp.group Sp.head; rw [if_pos hd8]
  obtain ⟨c0, c1, c2, c3, c4, c5, fz⟩ := h.facts
  have hh : Hid (RdAt w r s ⟨i0 + 1, 0, a, d, t⟩) := h
  have hpn : Hid (PtAt (w.alloc (.cells (((Tryz.zeroCells126.setIfInBounds 0 (.int .u8 40)).setIfInBounds 262 (.int .i64 (-1))).setIfInBounds 261 (.bool true)) 126)) w.heap.size _) := PtAt.new (((PtC.zero.set0 40).set262 (-1)).set261 true)
  clear h
  go_enter Tryz.func109, Tryz.ntmps109
  go_wp2_with fail
  refine (fail_any r s ⟨i0 + 1, 0, a, d, t⟩ _ _ _ (by exact hh.out.alloc _)).mono ?_
  rw [RS.fail_ok rfl]
  rintro e w1 ⟨rfl, hu1, hf1⟩
  have hf1' : RdAt w1 r s ⟨i0 + 1, 5, i0, d, t⟩ := by simpa using hf1
  have HF1 : Hid (RdAt w1 r s ⟨i0 + 1, 5, i0, d, t⟩) := hf1'
  clear hf1'
  have HP1 : Hid (PtAt w1 w.heap.size _) := hpn.out.upd hu1 (by simpa using hrp.symm)
  have HU1 : Hid (Upd [r, w.heap.size] w w1) := ((Upd.refl _ _).alloc _).trans hu1.one
  clear hu1 hf1
  go_wp2_with fail
  refine (is_any r s ⟨i0 + 1, 5, i0, d, t⟩ _ _ (by exact HF1.out) hs).mono ?_
  rw [isB_err (by exact (by decide : (5 : Int) ≠ 0))]
  rintro e w2 ⟨rfl, hu2, hf2⟩
  have HF2 : Hid (RdAt w2 r s ⟨i0 + 1, 5, i0, d, t⟩) := hf2
  have HP2 : Hid (PtAt w2 w.heap.size _) := HP1.out.upd hu2 (by simpa using hrp.symm)
  have HU2 : Hid (Upd [r, w.heap.size] w w2) := HU1.out.trans hu2.one
  clear hu2 hf2 c0 c1 c2 c3 c4 c5 fz
  obtain ⟨c0, c1, c2, c3, c4, c5, fz⟩ := HF2.out.facts
  have HF2' : Hid (RdAt (w2.setCell ⟨r, 5, none⟩ (.int .i64 (t + 1))) r s ⟨i0 + 1, 5, i0, d, t + 1⟩) := HF2.out.set5 _
  have HP2' : Hid (PtAt (w2.setCell ⟨r, 5, none⟩ (.int .i64 (t + 1))) w.heap.size _) := HP2.out.other hrp.symm _ _
  have HU2' : Hid (Upd [r, w.heap.size] w (w2.setCell ⟨r, 5, none⟩ (.int .i64 (t + 1)))) := HU2.out.setCell (by simp) _
  rcases Classical.em (9 < t + 1) with ht | ht
  · go_wp2_with fail
    refine (fail_any r s ⟨i0 + 1, 5, i0, d, t + 1⟩ _ _ _ (by exact HF2'.out)).mono ?_
    rw [RS.fail_no (by exact (by decide : (5 : Int) ≠ 0))]
    rintro e w3 ⟨rfl, hu3, hf3⟩
    have HF3 : Hid (RdAt w3 r s ⟨i0 + 1, 5, i0, d, t + 1⟩) := hf3
    have HP3 : Hid (PtAt w3 w.heap.size _) := HP2'.out.upd hu3 (by simpa using hrp.symm)
    have HU3 : Hid (Upd [r, w.heap.size] w w3) := HU2'.out.trans hu3.one
    clear hu3 hf3
    clear c0 c1 c2 c3 c4 c5 fz
    obtain ⟨c0, c1, c2, c3, c4, c5, fz⟩ := HF3.out.facts
    go_wp2_with fail
    refine (choice_err r s ⟨i0 + 1, 5, i0, (d : Int) + 1, t + 1⟩ _ (by exact HF3.out.set4 ((d : Int) + 1)) (by exact (by decide : (5 : Int) ≠ 0))).mono ?_
    rintro e w5 ⟨hu5, c, ps5, rfl, hc5, hp5⟩
    have HF5 : Hid (RdAt w5 r s ⟨i0 + 1, 5, i0, (d : Int) + 1, t + 1⟩) := (HF3.out.set4 ((d : Int) + 1)).upd hu5 (by simp)
    have HP5 : Hid (PtAt w5 w.heap.size _) := (HP3.out.other hrp.symm 4 (.int .i64 ((d : Int) + 1))).upd hu5 (by simp)
    have HU5 : Hid (Upd [r, w.heap.size] w w5) := (HU3.out.setCell (p := ⟨r, 4, none⟩) (by simp) _).trans (hu5.mono (by simp))
    clear hu5
    clear c0 c1 c2 c3 c4 c5 fz
    obtain ⟨c0, c1, c2, c3, c4, c5, fz⟩ := HF5.out.facts
    obtain ⟨p0, p1, p258, p259, p260, p261, p262, p263, pz⟩ := HP5.out.facts
    unfold ptr
    have hpl5 : w.heap.size < w5.heap.size := HP5.out.lt
    have hrl5 : r < w5.heap.size := HF5.out.lt
    go_wp2_with fail
    refine (is_any r s ⟨i0 + 1, 5, i0, (d : Int), t + 1⟩ _ _ (by exact ((HF5.out.set4 (d : Int)).other hrp 1 _).alloc _) hs).mono ?_
    rw [isB_err (by exact (by exact (by decide : (5 : Int) ≠ 0)))]
    rintro e w7 ⟨rfl, hu7, hf7⟩
    have HP7 : Hid (PtAt w7 w.heap.size _) := (((HP5.out.other hrp.symm 4 _).set1 _).alloc _).upd hu7 (by simpa using hrp.symm)
    have HU7 : Hid (Upd [r, w.heap.size] w w7) := (((HU5.out.setCell (p := ⟨r, 4, none⟩) (by simp) _).setCell (p := ⟨w.heap.size, 1, none⟩) (by simp) _).alloc _).trans hu7.one
    have HF7 : Hid (RdAt w7 r s ⟨i0 + 1, 5, i0, (d : Int), t + 1⟩) := hf7
    clear hu7 hf7 c0 c1 c2 c3 c4 c5 fz p0 p1 p258 p259 p260 p261 p262 p263 pz
    obtain ⟨c0, c1, c2, c3, c4, c5, fz⟩ := HF7.out.facts
    go_wp2_with fail
    refine (fail_any r s ⟨i0 + 1, 5, i0, (d : Int), t + 1⟩ _ _ _ (by exact HF7.out)).mono ?_
    rw [RS.fail_no (by exact (by exact (by decide : (5 : Int) ≠ 0)))]
    rintro e w8 ⟨rfl, hu8, hf8⟩
    have HP8 : Hid (PtAt w8 w.heap.size _) := HP7.out.upd hu8 (by simpa using hrp.symm)
    have HU8 : Hid (Upd [r, w.heap.size] w w8) := HU7.out.trans hu8.one
    clear hu8
    go_wp2_with fail
    go_ret
    exact group_no HR.out (by exact (by decide : (5 : Int) ≠ 0)) HU8.out hf8 HP8.out
  · go_wp2_with fail
    refine (choice_err r s ⟨i0 + 1, 5, i0, (d : Int) + 1, t + 1⟩ _ (by exact HF2'.out.set4 ((d : Int) + 1)) (by exact (by decide : (5 : Int) ≠ 0))).mono ?_
    rintro e w5 ⟨hu5, c, ps5, rfl, hc5, hp5⟩
    have HF5 : Hid (RdAt w5 r s ⟨i0 + 1, 5, i0, (d : Int) + 1, t + 1⟩) := (HF2'.out.set4 ((d : Int) + 1)).upd hu5 (by simp)
    have HP5 : Hid (PtAt w5 w.heap.size _) := (HP2'.out.other hrp.symm 4 (.int .i64 ((d : Int) + 1))).upd hu5 (by simp)
    have HU5 : Hid (Upd [r, w.heap.size] w w5) := (HU2'.out.setCell (p := ⟨r, 4, none⟩) (by simp) _).trans (hu5.mono (by simp))
    clear hu5
    clear c0 c1 c2 c3 c4 c5 fz
    obtain ⟨c0, c1, c2, c3, c4, c5, fz⟩ := HF5.out.facts
    obtain ⟨p0, p1, p258, p259, p260, p261, p262, p263, pz⟩ := HP5.out.facts
    unfold ptr
    have hpl5 : w.heap.size < w5.heap.size := HP5.out.lt
    have hrl5 : r < w5.heap.size := HF5.out.lt
    go_wp2_with fail
    refine (is_any r s ⟨i0 + 1, 5, i0, (d : Int), t + 1⟩ _ _ (by exact ((HF5.out.set4 (d : Int)).other hrp 1 _).alloc _) hs).mono ?_
    rw [isB_err (by exact (by exact (by decide : (5 : Int) ≠ 0)))]
    rintro e w7 ⟨rfl, hu7, hf7⟩
    have HP7 : Hid (PtAt w7 w.heap.size _) := (((HP5.out.other hrp.symm 4 _).set1 _).alloc _).upd hu7 (by simpa using hrp.symm)
    have HU7 : Hid (Upd [r, w.heap.size] w w7) := (((HU5.out.setCell (p := ⟨r, 4, none⟩) (by simp) _).setCell (p := ⟨w.heap.size, 1, none⟩) (by simp) _).alloc _).trans hu7.one
    have HF7 : Hid (RdAt w7 r s ⟨i0 + 1, 5, i0, (d : Int), t + 1⟩) := hf7
    clear hu7 hf7 c0 c1 c2 c3 c4 c5 fz p0 p1 p258 p259 p260 p261 p262 p263 pz
    obtain ⟨c0, c1, c2, c3, c4, c5, fz⟩ := HF7.out.facts
    go_wp2_with fail
    refine (fail_any r s ⟨i0 + 1, 5, i0, (d : Int), t + 1⟩ _ _ _ (by exact HF7.out)).mono ?_
    rw [RS.fail_no (by exact (by exact (by decide : (5 : Int) ≠ 0)))]
    rintro e w8 ⟨rfl, hu8, hf8⟩
    have HP8 : Hid (PtAt w8 w.heap.size _) := HP7.out.upd hu8 (by simpa using hrp.symm)
    have HU8 : Hid (Upd [r, w.heap.size] w w8) := HU7.out.trans hu8.one
    clear hu8
    go_wp2_with fail
    go_ret
    exact group_no HR.out (by exact (by decide : (5 : Int) ≠ 0)) HU8.out hf8 HP8.out

set_option maxHeartbeats 400000 in
theorem group_quiet_no (r : Nat) (s : ByteArray) (i0 : Nat) (a : Int) (d : Nat) (t : Int) (w : World) (sub : Sp.At → Sp.Res (Tr × Sp.At)) (h : RdAt w r s ⟨i0 + 1, 0, a, d, t⟩) (hs : s.size ≤ 200) (hi : i0 + 1 ≤ s.size) (hd9 : d ≤ 8) (ht0 : 0 ≤ t) (ht9 : t ≤ 9) (hd8 : ¬ 8 ≤ d) (q1 : Sp.isAt s (i0 + 1) 63 = true) (q2 : Sp.isAt s (i0 + 1 + 1) 58 = false) :
    Calls Tryz.prog 109 #[.pointer (some ⟨r, 0, none⟩)] w (PartOut r s ⟨i0 + 1, 0, a, d, t⟩ w (Sp.group sub s d ⟨i0, t⟩)) := by
  have hr := h.lt
  have hrp : r ≠ w.heap.size := by omega
  have HR : Hid (Sp.group sub s d ⟨i0, t⟩ = .error (3, (i0 + 1 + 1 : Nat))) := by show _ = _; unfold Sp.group Sp.head; rw [if_neg hd8]; simp [q1, Sp.need, q2]; omega
  obtain ⟨c0, c1, c2, c3, c4, c5, fz⟩ := h.facts
  have hh : Hid (RdAt w r s ⟨i0 + 1, 0, a, d, t⟩) := h
  have hpn : Hid (PtAt (w.alloc (.cells (((Tryz.zeroCells126.setIfInBounds 0 (.int .u8 40)).setIfInBounds 262 (.int .i64 (-1))).setIfInBounds 261 (.bool true)) 126)) w.heap.size _) := PtAt.new (((PtC.zero.set0 40).set262 (-1)).set261 true)
  clear h
  have Q1 : Hid (Sp.isAt s (i0 + 1) 63 = true) := q1
  have Q2 : Hid (Sp.isAt s (i0 + 1 + 1) 58 = false) := q2
  clear q1 q2
  go_enter Tryz.func109, Tryz.ntmps109
  go_wp2_with fail
  refine (is_any r s ⟨i0 + 1, 0, a, d, t⟩ _ _ (by exact hh.out.alloc _) hs).mono ?_
  rw [isB_ok rfl, show Sp.isAt s _ 63 = true from Q1.out]
  rintro e w1 ⟨rfl, hu1, hf1⟩
  have HF1 : Hid (RdAt w1 r s ⟨i0 + 1 + 1, 0, a, d, t⟩) := hf1
  have HP1 : Hid (PtAt w1 w.heap.size _) := (hpn.out).upd hu1 (by simpa using hrp.symm)
  have HU1 : Hid (Upd [r, w.heap.size] w w1) := ((Upd.refl _ _).alloc _).trans hu1.one
  clear hu1 hf1
  obtain ⟨p0, p1, p258, p259, p260, p261, p262, p263, pz⟩ := HP1.out.facts
  go_wp2_with fail
  refine (is_any r s ⟨i0 + 1 + 1, 0, a, d, t⟩ _ _ (by exact HF1.out.other hrp _ _) hs).mono ?_
  rw [isB_ok rfl, show Sp.isAt s _ 58 = false from Q2.out]
  rintro e w2 ⟨rfl, hu2, hf2⟩
  have HF2 : Hid (RdAt w2 r s ⟨i0 + 1 + 1, 0, a, d, t⟩) := hf2
  have HP2 : Hid (PtAt w2 w.heap.size _) := (HP1.out.set261 false).upd hu2 (by simpa using hrp.symm)
  have HU2 : Hid (Upd [r, w.heap.size] w w2) := (HU1.out.setCell (p := ⟨w.heap.size, 261, none⟩) (by simp) _).trans hu2.one
  clear hu2 hf2
  clear p0 p1 p258 p259 p260 p261 p262 p263 pz
  clear c0 c1 c2 c3 c4 c5 fz
  obtain ⟨c0, c1, c2, c3, c4, c5, fz⟩ := HF2.out.facts
  go_wp2_with fail
  refine (fail_any r s ⟨i0 + 1 + 1, 0, a, d, t⟩ _ _ _ (by exact HF2.out)).mono ?_
  rw [RS.fail_ok rfl]
  rintro e w3 ⟨rfl, hu3, hf3⟩
  have HF3 : Hid (RdAt w3 r s ⟨i0 + 1 + 1, 3, (i0 + 1 + 1 : Nat), d, t⟩) := hf3
  have HP3 : Hid (PtAt w3 w.heap.size _) := HP2.out.upd hu3 (by simpa using hrp.symm)
  have HU3 : Hid (Upd [r, w.heap.size] w w3) := HU2.out.trans hu3.one
  clear hu3 hf3
  clear c0 c1 c2 c3 c4 c5 fz
  obtain ⟨c0, c1, c2, c3, c4, c5, fz⟩ := HF3.out.facts
  go_wp2_with fail
  refine (choice_err r s ⟨i0 + 1 + 1, 3, (i0 + 1 + 1 : Nat), (d : Int) + 1, t⟩ _ (by exact HF3.out.set4 ((d : Int) + 1)) (by exact (by decide : (3 : Int) ≠ 0))).mono ?_
  rintro e w5 ⟨hu5, c, ps5, rfl, hc5, hp5⟩
  have HF5 : Hid (RdAt w5 r s ⟨i0 + 1 + 1, 3, (i0 + 1 + 1 : Nat), (d : Int) + 1, t⟩) := (HF3.out.set4 ((d : Int) + 1)).upd hu5 (by simp)
  have HP5 : Hid (PtAt w5 w.heap.size _) := (HP3.out.other hrp.symm 4 (.int .i64 ((d : Int) + 1))).upd hu5 (by simp)
  have HU5 : Hid (Upd [r, w.heap.size] w w5) := (HU3.out.setCell (p := ⟨r, 4, none⟩) (by simp) _).trans (hu5.mono (by simp))
  clear hu5
  clear c0 c1 c2 c3 c4 c5 fz
  obtain ⟨c0, c1, c2, c3, c4, c5, fz⟩ := HF5.out.facts
  obtain ⟨p0, p1, p258, p259, p260, p261, p262, p263, pz⟩ := HP5.out.facts
  unfold ptr
  have hpl5 : w.heap.size < w5.heap.size := HP5.out.lt
  have hrl5 : r < w5.heap.size := HF5.out.lt
  go_wp2_with fail
  refine (is_any r s ⟨i0 + 1 + 1, 3, (i0 + 1 + 1 : Nat), (d : Int), t⟩ _ _ (by exact ((HF5.out.set4 (d : Int)).other hrp 1 _).alloc _) hs).mono ?_
  rw [isB_err (by exact (by exact (by decide : (3 : Int) ≠ 0)))]
  rintro e w7 ⟨rfl, hu7, hf7⟩
  have HP7 : Hid (PtAt w7 w.heap.size _) := (((HP5.out.other hrp.symm 4 _).set1 _).alloc _).upd hu7 (by simpa using hrp.symm)
  have HU7 : Hid (Upd [r, w.heap.size] w w7) := (((HU5.out.setCell (p := ⟨r, 4, none⟩) (by simp) _).setCell (p := ⟨w.heap.size, 1, none⟩) (by simp) _).alloc _).trans hu7.one
  have HF7 : Hid (RdAt w7 r s ⟨i0 + 1 + 1, 3, (i0 + 1 + 1 : Nat), (d : Int), t⟩) := hf7
  clear hu7 hf7 c0 c1 c2 c3 c4 c5 fz p0 p1 p258 p259 p260 p261 p262 p263 pz
  obtain ⟨c0, c1, c2, c3, c4, c5, fz⟩ := HF7.out.facts
  go_wp2_with fail
  refine (fail_any r s ⟨i0 + 1 + 1, 3, (i0 + 1 + 1 : Nat), (d : Int), t⟩ _ _ _ (by exact HF7.out)).mono ?_
  rw [RS.fail_no (by exact (by exact (by decide : (3 : Int) ≠ 0)))]
  rintro e w8 ⟨rfl, hu8, hf8⟩
  have HP8 : Hid (PtAt w8 w.heap.size _) := HP7.out.upd hu8 (by simpa using hrp.symm)
  have HU8 : Hid (Upd [r, w.heap.size] w w8) := HU7.out.trans hu8.one
  clear hu8
  go_wp2_with fail
  go_ret
  exact group_no HR.out (by exact (by decide : (3 : Int) ≠ 0)) HU8.out hf8 HP8.out

set_option maxHeartbeats 400000 in
theorem group_many (r : Nat) (s : ByteArray) (i0 : Nat) (a : Int) (d : Nat) (t : Int) (w : World) (sub : Sp.At → Sp.Res (Tr × Sp.At)) (h : RdAt w r s ⟨i0 + 1, 0, a, d, t⟩) (hs : s.size ≤ 200) (hi : i0 + 1 ≤ s.size) (hd9 : d ≤ 8) (ht0 : 0 ≤ t) (ht9 : t ≤ 9) (hd8 : ¬ 8 ≤ d) (q1 : Sp.isAt s (i0 + 1) 63 = false) (q2 : 9 < t + 1) :
    Calls Tryz.prog 109 #[.pointer (some ⟨r, 0, none⟩)] w (PartOut r s ⟨i0 + 1, 0, a, d, t⟩ w (Sp.group sub s d ⟨i0, t⟩)) := by
  have hr := h.lt
  have hrp : r ≠ w.heap.size := by omega
  have HR : Hid (Sp.group sub s d ⟨i0, t⟩ = .error (6, i0)) := by show _ = _; unfold Sp.group Sp.head; rw [if_neg hd8]; simp [q1, (by omega : 9 ≤ t)]
  obtain ⟨c0, c1, c2, c3, c4, c5, fz⟩ := h.facts
  have hh : Hid (RdAt w r s ⟨i0 + 1, 0, a, d, t⟩) := h
  have hpn : Hid (PtAt (w.alloc (.cells (((Tryz.zeroCells126.setIfInBounds 0 (.int .u8 40)).setIfInBounds 262 (.int .i64 (-1))).setIfInBounds 261 (.bool true)) 126)) w.heap.size _) := PtAt.new (((PtC.zero.set0 40).set262 (-1)).set261 true)
  clear h
  have Q1 : Hid (Sp.isAt s (i0 + 1) 63 = false) := q1
  clear q1
  go_enter Tryz.func109, Tryz.ntmps109
  go_wp2_with fail
  refine (is_any r s ⟨i0 + 1, 0, a, d, t⟩ _ _ (by exact hh.out.alloc _) hs).mono ?_
  rw [isB_ok rfl, show Sp.isAt s _ 63 = false from Q1.out]
  rintro e w2 ⟨rfl, hu2, hf2⟩
  have HF2 : Hid (RdAt w2 r s ⟨i0 + 1, 0, a, d, t⟩) := hf2
  have HP2 : Hid (PtAt w2 w.heap.size _) := (hpn.out).upd hu2 (by simpa using hrp.symm)
  have HU2 : Hid (Upd [r, w.heap.size] w w2) := ((Upd.refl _ _).alloc _).trans hu2.one
  clear hu2 hf2
  clear c0 c1 c2 c3 c4 c5 fz
  obtain ⟨c0, c1, c2, c3, c4, c5, fz⟩ := HF2.out.facts
  have HF2' : Hid (RdAt (w2.setCell ⟨r, 5, none⟩ (.int .i64 (t + 1))) r s ⟨i0 + 1, 0, a, d, t + 1⟩) := HF2.out.set5 _
  have HP2' : Hid (PtAt (w2.setCell ⟨r, 5, none⟩ (.int .i64 (t + 1))) w.heap.size _) := HP2.out.other hrp.symm _ _
  have HU2' : Hid (Upd [r, w.heap.size] w (w2.setCell ⟨r, 5, none⟩ (.int .i64 (t + 1)))) := HU2.out.setCell (by simp) _
  go_wp2_with fail
  refine (fail_any r s ⟨i0 + 1, 0, a, d, t + 1⟩ _ _ _ (by exact HF2'.out)).mono ?_
  rw [RS.fail_ok rfl]
  rintro e w3 ⟨rfl, hu3, hf3⟩
  have hf3' : RdAt w3 r s ⟨i0 + 1, 6, i0, d, t + 1⟩ := by simpa using hf3
  have HF3 : Hid (RdAt w3 r s ⟨i0 + 1, 6, i0, d, t + 1⟩) := hf3'
  clear hf3'
  have HP3 : Hid (PtAt w3 w.heap.size _) := HP2'.out.upd hu3 (by simpa using hrp.symm)
  have HU3 : Hid (Upd [r, w.heap.size] w w3) := HU2'.out.trans hu3.one
  clear hu3 hf3
  clear c0 c1 c2 c3 c4 c5 fz
  obtain ⟨c0, c1, c2, c3, c4, c5, fz⟩ := HF3.out.facts
  go_wp2_with fail
  refine (choice_err r s ⟨i0 + 1, 6, i0, (d : Int) + 1, t + 1⟩ _ (by exact HF3.out.set4 ((d : Int) + 1)) (by exact (by decide : (6 : Int) ≠ 0))).mono ?_
  rintro e w5 ⟨hu5, c, ps5, rfl, hc5, hp5⟩
  have HF5 : Hid (RdAt w5 r s ⟨i0 + 1, 6, i0, (d : Int) + 1, t + 1⟩) := (HF3.out.set4 ((d : Int) + 1)).upd hu5 (by simp)
  have HP5 : Hid (PtAt w5 w.heap.size _) := (HP3.out.other hrp.symm 4 (.int .i64 ((d : Int) + 1))).upd hu5 (by simp)
  have HU5 : Hid (Upd [r, w.heap.size] w w5) := (HU3.out.setCell (p := ⟨r, 4, none⟩) (by simp) _).trans (hu5.mono (by simp))
  clear hu5
  clear c0 c1 c2 c3 c4 c5 fz
  obtain ⟨c0, c1, c2, c3, c4, c5, fz⟩ := HF5.out.facts
  obtain ⟨p0, p1, p258, p259, p260, p261, p262, p263, pz⟩ := HP5.out.facts
  unfold ptr
  have hpl5 : w.heap.size < w5.heap.size := HP5.out.lt
  have hrl5 : r < w5.heap.size := HF5.out.lt
  go_wp2_with fail
  refine (is_any r s ⟨i0 + 1, 6, i0, (d : Int), t + 1⟩ _ _ (by exact ((HF5.out.set4 (d : Int)).other hrp 1 _).alloc _) hs).mono ?_
  rw [isB_err (by exact (by exact (by decide : (6 : Int) ≠ 0)))]
  rintro e w7 ⟨rfl, hu7, hf7⟩
  have HP7 : Hid (PtAt w7 w.heap.size _) := (((HP5.out.other hrp.symm 4 _).set1 _).alloc _).upd hu7 (by simpa using hrp.symm)
  have HU7 : Hid (Upd [r, w.heap.size] w w7) := (((HU5.out.setCell (p := ⟨r, 4, none⟩) (by simp) _).setCell (p := ⟨w.heap.size, 1, none⟩) (by simp) _).alloc _).trans hu7.one
  have HF7 : Hid (RdAt w7 r s ⟨i0 + 1, 6, i0, (d : Int), t + 1⟩) := hf7
  clear hu7 hf7 c0 c1 c2 c3 c4 c5 fz p0 p1 p258 p259 p260 p261 p262 p263 pz
  obtain ⟨c0, c1, c2, c3, c4, c5, fz⟩ := HF7.out.facts
  go_wp2_with fail
  refine (fail_any r s ⟨i0 + 1, 6, i0, (d : Int), t + 1⟩ _ _ _ (by exact HF7.out)).mono ?_
  rw [RS.fail_no (by exact (by exact (by decide : (6 : Int) ≠ 0)))]
  rintro e w8 ⟨rfl, hu8, hf8⟩
  have HP8 : Hid (PtAt w8 w.heap.size _) := HP7.out.upd hu8 (by simpa using hrp.symm)
  have HU8 : Hid (Upd [r, w.heap.size] w w8) := HU7.out.trans hu8.one
  clear hu8
  go_wp2_with fail
  go_ret
  exact group_no HR.out (by exact (by decide : (6 : Int) ≠ 0)) HU8.out hf8 HP8.out

theorem group_slot {r p : Nat} {w5 w7 : World} {v1 v2 : Value} {o1 o2 : Nat} {c : Nat} (hu : Upd [r] (((w5.setCell ⟨r, o1, none⟩ v1).setCell ⟨p, o2, none⟩ v2).alloc (.cells #[.pointer (some ⟨c, 0, none⟩)] 74)) w7) (hr : r < w5.heap.size) :
    w7.heap[w5.heap.size]? = some (.cells #[ptr c] 74 (0, 0)) := by
  have e : ((w5.setCell ⟨r, o1, none⟩ v1).setCell ⟨p, o2, none⟩ v2).heap.size = w5.heap.size := by simp [World.setCell]
  rw [hu.block w5.heap.size (by simp [World.setCell]) (by simp; omega)]
  show (((w5.setCell ⟨r, o1, none⟩ v1).setCell ⟨p, o2, none⟩ v2).heap.push _)[w5.heap.size]? = _
  rw [← e, Array.getElem?_push_size]; rfl

set_option maxHeartbeats 400000 in
theorem group_quiet (r : Nat) (s : ByteArray) (i0 : Nat) (a : Int) (d : Nat) (t : Int) (w : World) (h : RdAt w r s ⟨i0 + 1, 0, a, d, t⟩) (hs : s.size ≤ 200) (hi : i0 + 1 ≤ s.size) (hd9 : d ≤ 8) (ht0 : 0 ≤ t) (ht9 : t ≤ 9) (k : Nat) (hsub : ChoiceC k) (hk : (d : Int) + 1 = 9 - (k : Int)) (hd8 : ¬ 8 ≤ d) (q1 : Sp.isAt s (i0 + 1) 63 = true) (q2 : Sp.isAt s (i0 + 1 + 1) 58 = true) :
    Calls Tryz.prog 109 #[.pointer (some ⟨r, 0, none⟩)] w (PartOut r s ⟨i0 + 1, 0, a, d, t⟩ w (Sp.group (Sp.choice s k) s d ⟨i0, t⟩)) := by
  have hr := h.lt
  have hrp : r ≠ w.heap.size := by omega
  have HG : Hid (Sp.group (Sp.choice s k) s d ⟨i0, t⟩ = match Sp.choice s k ⟨i0 + 1 + 1 + 1, t⟩ with | .error f => .error f | .ok (tr, z) => match Sp.need 41 s z.i with | .error f => .error f | .ok j => .ok (⟨gLab false 0, [tr]⟩, ⟨j, z.t⟩)) := by show _ = _; unfold Sp.group Sp.head; rw [if_neg hd8]; simp [q1, Sp.need, q2]; rfl
  obtain ⟨c0, c1, c2, c3, c4, c5, fz⟩ := h.facts
  have hh : Hid (RdAt w r s ⟨i0 + 1, 0, a, d, t⟩) := h
  have hpn : Hid (PtAt (w.alloc (.cells (((Tryz.zeroCells126.setIfInBounds 0 (.int .u8 40)).setIfInBounds 262 (.int .i64 (-1))).setIfInBounds 261 (.bool true)) 126)) w.heap.size _) := PtAt.new (((PtC.zero.set0 40).set262 (-1)).set261 true)
  clear h
  have Q1 : Hid (Sp.isAt s (i0 + 1) 63 = true) := q1
  have Q2 : Hid (Sp.isAt s (i0 + 1 + 1) 58 = true) := q2
  have hi1 : i0 + 1 + 1 + 1 ≤ s.size := by simp [Sp.isAt] at q2; omega
  have hd1 : Hid ((d : Int) + 1 = 9 - (k : Int)) := hk
  have ht1 := ht0
  have ht2 := ht9
  clear q1 q2 hk
  go_enter Tryz.func109, Tryz.ntmps109
  go_wp2_with fail
  refine (is_any r s ⟨i0 + 1, 0, a, d, t⟩ _ _ (by exact hh.out.alloc _) hs).mono ?_
  rw [isB_ok rfl, show Sp.isAt s _ 63 = true from Q1.out]
  rintro e w1 ⟨rfl, hu1, hf1⟩
  have HF1 : Hid (RdAt w1 r s ⟨i0 + 1 + 1, 0, a, d, t⟩) := hf1
  have HP1 : Hid (PtAt w1 w.heap.size _) := (hpn.out).upd hu1 (by simpa using hrp.symm)
  have HU1 : Hid (Upd [r, w.heap.size] w w1) := ((Upd.refl _ _).alloc _).trans hu1.one
  clear hu1 hf1
  obtain ⟨p0, p1, p258, p259, p260, p261, p262, p263, pz⟩ := HP1.out.facts
  go_wp2_with fail
  refine (is_any r s ⟨i0 + 1 + 1, 0, a, d, t⟩ _ _ (by exact HF1.out.other hrp _ _) hs).mono ?_
  rw [isB_ok rfl, show Sp.isAt s _ 58 = true from Q2.out]
  rintro e w2 ⟨rfl, hu2, hf2⟩
  have HF2 : Hid (RdAt w2 r s ⟨i0 + 1 + 1 + 1, 0, a, d, t⟩) := hf2
  have HP2 : Hid (PtAt w2 w.heap.size _) := (HP1.out.set261 false).upd hu2 (by simpa using hrp.symm)
  have HU2 : Hid (Upd [r, w.heap.size] w w2) := (HU1.out.setCell (p := ⟨w.heap.size, 261, none⟩) (by simp) _).trans hu2.one
  clear hu2 hf2
  clear p0 p1 p258 p259 p260 p261 p262 p263 pz
  clear c0 c1 c2 c3 c4 c5 fz
  obtain ⟨c0, c1, c2, c3, c4, c5, fz⟩ := HF2.out.facts
  go_wp2_with fail
  refine (hsub r s ⟨i0 + 1 + 1 + 1, 0, a, (d : Int) + 1, t⟩ _ (by exact HF2.out.set4 ((d : Int) + 1)) hs rfl (by exact hi1) (by exact hd1.out) (by exact ht1) (by exact ht2)).mono ?_
  rintro e w5 ⟨hu5, hq5⟩
  have HP5 : Hid (PtAt w5 w.heap.size _) := (HP2.out.other hrp.symm 4 (.int .i64 ((d : Int) + 1))).upd hu5 (by simpa using hrp.symm)
  have HU5 : Hid (Upd [r, w.heap.size] w w5) := (HU2.out.setCell (p := ⟨r, 4, none⟩) (by simp) _).trans hu5.one
  have hsz : Hid (w.heap.size < w2.heap.size) := HP2.out.lt
  clear hu5
  revert hq5
  cases hr5 : Sp.choice s k ⟨i0 + 1 + 1 + 1, t⟩
  case error f =>
    obtain ⟨e1, a1⟩ := f
    rintro ⟨he1, c, i', t', ps5, rfl, hc5, hp5, hf5⟩
    have HE1 : Hid (e1 ≠ 0) := he1
    have HR : Hid (Sp.group (Sp.choice s k) s d ⟨i0, t⟩ = .error (e1, a1)) := by show _ = _; rw [HG.out, hr5]
    have HF5 : Hid (RdAt w5 r s ⟨i', e1, a1, (d : Int) + 1, t'⟩) := hf5
    clear hr5 hf5 he1
    clear c0 c1 c2 c3 c4 c5 fz
    obtain ⟨c0, c1, c2, c3, c4, c5, fz⟩ := HF5.out.facts
    obtain ⟨p0, p1, p258, p259, p260, p261, p262, p263, pz⟩ := HP5.out.facts
    unfold ptr
    have hpl5 : w.heap.size < w5.heap.size := HP5.out.lt
    have hrl5 : r < w5.heap.size := HF5.out.lt
    go_wp2_with fail
    refine (is_any r s ⟨i', e1, a1, (d : Int), t'⟩ _ _ (by exact ((HF5.out.set4 (d : Int)).other hrp 1 _).alloc _) hs).mono ?_
    rw [isB_err (by exact HE1.out)]
    rintro e w7 ⟨rfl, hu7, hf7⟩
    have HP7 : Hid (PtAt w7 w.heap.size _) := (((HP5.out.other hrp.symm 4 _).set1 _).alloc _).upd hu7 (by simpa using hrp.symm)
    have HU7 : Hid (Upd [r, w.heap.size] w w7) := (((HU5.out.setCell (p := ⟨r, 4, none⟩) (by simp) _).setCell (p := ⟨w.heap.size, 1, none⟩) (by simp) _).alloc _).trans hu7.one
    have HF7 : Hid (RdAt w7 r s ⟨i', e1, a1, (d : Int), t'⟩) := hf7
    clear hu7 hf7 c0 c1 c2 c3 c4 c5 fz p0 p1 p258 p259 p260 p261 p262 p263 pz
    obtain ⟨c0, c1, c2, c3, c4, c5, fz⟩ := HF7.out.facts
    go_wp2_with fail
    refine (fail_any r s ⟨i', e1, a1, (d : Int), t'⟩ _ _ _ (by exact HF7.out)).mono ?_
    rw [RS.fail_no (by exact HE1.out)]
    rintro e w8 ⟨rfl, hu8, hf8⟩
    have HP8 : Hid (PtAt w8 w.heap.size _) := HP7.out.upd hu8 (by simpa using hrp.symm)
    have HU8 : Hid (Upd [r, w.heap.size] w w8) := HU7.out.trans hu8.one
    clear hu8
    go_wp2_with fail
    go_ret
    exact group_no HR.out HE1.out HU8.out hf8 HP8.out
  case ok f =>
    obtain ⟨tr, y⟩ := f
    rintro ⟨c, rfl, hc5, hf5⟩
    have HF5 : Hid (RdAt w5 r s ⟨y.i, 0, a, (d : Int) + 1, y.t⟩) := hf5
    have HG' : Hid (Sp.group (Sp.choice s k) s d ⟨i0, t⟩ = match Sp.need 41 s y.i with | .error f => .error f | .ok j => .ok (⟨gLab false 0, [tr]⟩, ⟨j, y.t⟩)) := by show _ = _; rw [HG.out, hr5]
    have HC5 : Hid (PartsAt w5 (fun k => w.heap.size < k ∧ k < w5.heap.size) [c] [tr]) := PartsAt.mono _ _ _ _ hc5 (fun k hk hl => by have := hsz.out; simp at hk; exact ⟨by omega, hl⟩)
    have hr5' : r < w5.heap.size := hf5.lt
    have hp5' : w.heap.size < w5.heap.size := HP5.out.lt
    clear hr5 hf5 hc5 c0 c1 c2 c3 c4 c5 fz
    obtain ⟨c0, c1, c2, c3, c4, c5, fz⟩ := HF5.out.facts
    obtain ⟨p0, p1, p258, p259, p260, p261, p262, p263, pz⟩ := HP5.out.facts
    unfold ptr
    go_wp2_with fail
    refine (is_any r s ⟨y.i, 0, a, d, y.t⟩ _ _ (by exact ((HF5.out.set4 (d : Int)).other hrp 1 _).alloc _) hs).mono ?_
    rw [isB_ok rfl]
    rintro e w7 ⟨rfl, hu7, hf7⟩
    have HP7 : Hid (PtAt w7 w.heap.size _) := (((HP5.out.other hrp.symm 4 _).set1 _).alloc _).upd hu7 (by simpa using hrp.symm)
    have HU7 : Hid (Upd [r, w.heap.size] w w7) := (((HU5.out.setCell (p := ⟨r, 4, none⟩) (by simp) _).setCell (p := ⟨w.heap.size, 1, none⟩) (by simp) _).alloc _).trans hu7.one
    have HU57 : Hid (Upd [r, w.heap.size] w5 w7) := ((((Upd.refl _ _).setCell (p := ⟨r, 4, none⟩) (by simp) _).setCell (p := ⟨w.heap.size, 1, none⟩) (by simp) _).alloc _).trans hu7.one
    have HC7 : Hid (PartsAt w7 (fun k => w.heap.size < k ∧ k < w5.heap.size) [c] [tr]) := HC5.out.upd HU57.out (by simp; omega)
    have HG7 : Hid (w7.heap[w5.heap.size]? = some (.cells #[ptr c] 74 (0, 0))) := group_slot hu7 (by omega)
    clear hu7 c0 c1 c2 c3 c4 c5 fz p0 p1 p258 p259 p260 p261 p262 p263 pz
    cases hb : Sp.isAt s y.i 41
    case true =>
      have HR : Hid (Sp.group (Sp.choice s k) s d ⟨i0, t⟩ = .ok (⟨gLab false 0, [tr]⟩, ⟨y.i + 1, y.t⟩)) := by show _ = _; rw [HG'.out]; simp [Sp.need, hb]
      have HF7 : Hid (RdAt w7 r s ⟨y.i + 1, 0, a, d, y.t⟩) := by rw [hb] at hf7; exact hf7
      clear hb hf7
      go_wp2_with fail
      go_ret
      exact group_ok HR.out HU7.out HF7.out HP7.out hp5' HG7.out HC7.out
    case false =>
      have HR : Hid (Sp.group (Sp.choice s k) s d ⟨i0, t⟩ = .error (3, y.i)) := by show _ = _; rw [HG'.out]; simp [Sp.need, hb]
      have HF7 : Hid (RdAt w7 r s ⟨y.i, 0, a, d, y.t⟩) := by rw [hb] at hf7; exact hf7
      clear hb hf7
      obtain ⟨c0, c1, c2, c3, c4, c5, fz⟩ := HF7.out.facts
      go_wp2_with fail
      refine (fail_any r s ⟨y.i, 0, a, d, y.t⟩ _ _ _ (by exact HF7.out)).mono ?_
      rw [RS.fail_ok rfl]
      rintro e w8 ⟨rfl, hu8, hf8⟩
      have HP8 : Hid (PtAt w8 w.heap.size _) := HP7.out.upd hu8 (by simpa using hrp.symm)
      have HU8 : Hid (Upd [r, w.heap.size] w w8) := HU7.out.trans hu8.one
      clear hu8
      go_wp2_with fail
      go_ret
      exact group_no HR.out (by decide) HU8.out hf8 HP8.out

set_option maxHeartbeats 400000 in
theorem group_told (r : Nat) (s : ByteArray) (i0 : Nat) (a : Int) (d : Nat) (t : Int) (w : World) (h : RdAt w r s ⟨i0 + 1, 0, a, d, t⟩) (hs : s.size ≤ 200) (hi : i0 + 1 ≤ s.size) (hd9 : d ≤ 8) (ht0 : 0 ≤ t) (ht9 : t ≤ 9) (k : Nat) (hsub : ChoiceC k) (hk : (d : Int) + 1 = 9 - (k : Int)) (hd8 : ¬ 8 ≤ d) (q1 : Sp.isAt s (i0 + 1) 63 = false) (q2 : ¬ 9 < t + 1) :
    Calls Tryz.prog 109 #[.pointer (some ⟨r, 0, none⟩)] w (PartOut r s ⟨i0 + 1, 0, a, d, t⟩ w (Sp.group (Sp.choice s k) s d ⟨i0, t⟩)) := by
  have hr := h.lt
  have hrp : r ≠ w.heap.size := by omega
  have HG : Hid (Sp.group (Sp.choice s k) s d ⟨i0, t⟩ = match Sp.choice s k ⟨i0 + 1, t + 1⟩ with | .error f => .error f | .ok (tr, z) => match Sp.need 41 s z.i with | .error f => .error f | .ok j => .ok (⟨gLab true (t + 1).toNat, [tr]⟩, ⟨j, z.t⟩)) := by show _ = _; unfold Sp.group Sp.head; rw [if_neg hd8, if_neg (by simp [q1]), if_neg (show ¬ (9 ≤ t) by omega)]; simp only [decide_eq_true (show (t + 1).toNat ≠ 0 by omega)]; rfl
  obtain ⟨c0, c1, c2, c3, c4, c5, fz⟩ := h.facts
  have hh : Hid (RdAt w r s ⟨i0 + 1, 0, a, d, t⟩) := h
  have hpn : Hid (PtAt (w.alloc (.cells (((Tryz.zeroCells126.setIfInBounds 0 (.int .u8 40)).setIfInBounds 262 (.int .i64 (-1))).setIfInBounds 261 (.bool true)) 126)) w.heap.size _) := PtAt.new (((PtC.zero.set0 40).set262 (-1)).set261 true)
  clear h
  have Q1 : Hid (Sp.isAt s (i0 + 1) 63 = false) := q1
  have hi1 : i0 + 1 ≤ s.size := hi
  have hd1 : Hid ((d : Int) + 1 = 9 - (k : Int)) := hk
  have ht1 : 0 ≤ t + 1 := by omega
  have ht2 : t + 1 ≤ 9 := by omega
  clear q1 hk
  go_enter Tryz.func109, Tryz.ntmps109
  go_wp2_with fail
  refine (is_any r s ⟨i0 + 1, 0, a, d, t⟩ _ _ (by exact hh.out.alloc _) hs).mono ?_
  rw [isB_ok rfl, show Sp.isAt s _ 63 = false from Q1.out]
  rintro e w2 ⟨rfl, hu2, hf2⟩
  have HF2 : Hid (RdAt w2 r s ⟨i0 + 1, 0, a, d, t⟩) := hf2
  have HP2 : Hid (PtAt w2 w.heap.size _) := (hpn.out).upd hu2 (by simpa using hrp.symm)
  have HU2 : Hid (Upd [r, w.heap.size] w w2) := ((Upd.refl _ _).alloc _).trans hu2.one
  clear hu2 hf2
  clear c0 c1 c2 c3 c4 c5 fz
  obtain ⟨c0, c1, c2, c3, c4, c5, fz⟩ := HF2.out.facts
  have HF2' : Hid (RdAt (w2.setCell ⟨r, 5, none⟩ (.int .i64 (t + 1))) r s ⟨i0 + 1, 0, a, d, t + 1⟩) := HF2.out.set5 _
  have HP2' : Hid (PtAt (w2.setCell ⟨r, 5, none⟩ (.int .i64 (t + 1))) w.heap.size _) := HP2.out.other hrp.symm _ _
  have HU2' : Hid (Upd [r, w.heap.size] w (w2.setCell ⟨r, 5, none⟩ (.int .i64 (t + 1)))) := HU2.out.setCell (by simp) _
  go_wp2_with fail
  refine (hsub r s ⟨i0 + 1, 0, a, (d : Int) + 1, t + 1⟩ _ (by exact HF2'.out.set4 ((d : Int) + 1)) hs rfl (by exact hi1) (by exact hd1.out) (by exact ht1) (by exact ht2)).mono ?_
  rintro e w5 ⟨hu5, hq5⟩
  have HP5 : Hid (PtAt w5 w.heap.size _) := (HP2'.out.other hrp.symm 4 (.int .i64 ((d : Int) + 1))).upd hu5 (by simpa using hrp.symm)
  have HU5 : Hid (Upd [r, w.heap.size] w w5) := (HU2'.out.setCell (p := ⟨r, 4, none⟩) (by simp) _).trans hu5.one
  have hsz : Hid (w.heap.size < w2.heap.size) := HP2.out.lt
  clear hu5
  revert hq5
  cases hr5 : Sp.choice s k ⟨i0 + 1, t + 1⟩
  case error f =>
    obtain ⟨e1, a1⟩ := f
    rintro ⟨he1, c, i', t', ps5, rfl, hc5, hp5, hf5⟩
    have HE1 : Hid (e1 ≠ 0) := he1
    have HR : Hid (Sp.group (Sp.choice s k) s d ⟨i0, t⟩ = .error (e1, a1)) := by show _ = _; rw [HG.out, hr5]
    have HF5 : Hid (RdAt w5 r s ⟨i', e1, a1, (d : Int) + 1, t'⟩) := hf5
    clear hr5 hf5 he1
    clear c0 c1 c2 c3 c4 c5 fz
    obtain ⟨c0, c1, c2, c3, c4, c5, fz⟩ := HF5.out.facts
    obtain ⟨p0, p1, p258, p259, p260, p261, p262, p263, pz⟩ := HP5.out.facts
    unfold ptr
    have hpl5 : w.heap.size < w5.heap.size := HP5.out.lt
    have hrl5 : r < w5.heap.size := HF5.out.lt
    go_wp2_with fail
    refine (is_any r s ⟨i', e1, a1, (d : Int), t'⟩ _ _ (by exact ((HF5.out.set4 (d : Int)).other hrp 1 _).alloc _) hs).mono ?_
    rw [isB_err (by exact HE1.out)]
    rintro e w7 ⟨rfl, hu7, hf7⟩
    have HP7 : Hid (PtAt w7 w.heap.size _) := (((HP5.out.other hrp.symm 4 _).set1 _).alloc _).upd hu7 (by simpa using hrp.symm)
    have HU7 : Hid (Upd [r, w.heap.size] w w7) := (((HU5.out.setCell (p := ⟨r, 4, none⟩) (by simp) _).setCell (p := ⟨w.heap.size, 1, none⟩) (by simp) _).alloc _).trans hu7.one
    have HF7 : Hid (RdAt w7 r s ⟨i', e1, a1, (d : Int), t'⟩) := hf7
    clear hu7 hf7 c0 c1 c2 c3 c4 c5 fz p0 p1 p258 p259 p260 p261 p262 p263 pz
    obtain ⟨c0, c1, c2, c3, c4, c5, fz⟩ := HF7.out.facts
    go_wp2_with fail
    refine (fail_any r s ⟨i', e1, a1, (d : Int), t'⟩ _ _ _ (by exact HF7.out)).mono ?_
    rw [RS.fail_no (by exact HE1.out)]
    rintro e w8 ⟨rfl, hu8, hf8⟩
    have HP8 : Hid (PtAt w8 w.heap.size _) := HP7.out.upd hu8 (by simpa using hrp.symm)
    have HU8 : Hid (Upd [r, w.heap.size] w w8) := HU7.out.trans hu8.one
    clear hu8
    go_wp2_with fail
    go_ret
    exact group_no HR.out HE1.out HU8.out hf8 HP8.out
  case ok f =>
    obtain ⟨tr, y⟩ := f
    rintro ⟨c, rfl, hc5, hf5⟩
    have HF5 : Hid (RdAt w5 r s ⟨y.i, 0, a, (d : Int) + 1, y.t⟩) := hf5
    have HG' : Hid (Sp.group (Sp.choice s k) s d ⟨i0, t⟩ = match Sp.need 41 s y.i with | .error f => .error f | .ok j => .ok (⟨gLab true (t + 1).toNat, [tr]⟩, ⟨j, y.t⟩)) := by show _ = _; rw [HG.out, hr5]
    have HC5 : Hid (PartsAt w5 (fun k => w.heap.size < k ∧ k < w5.heap.size) [c] [tr]) := PartsAt.mono _ _ _ _ hc5 (fun k hk hl => by have := hsz.out; simp at hk; exact ⟨by omega, hl⟩)
    have hr5' : r < w5.heap.size := hf5.lt
    have hp5' : w.heap.size < w5.heap.size := HP5.out.lt
    clear hr5 hf5 hc5 c0 c1 c2 c3 c4 c5 fz
    obtain ⟨c0, c1, c2, c3, c4, c5, fz⟩ := HF5.out.facts
    obtain ⟨p0, p1, p258, p259, p260, p261, p262, p263, pz⟩ := HP5.out.facts
    unfold ptr
    go_wp2_with fail
    refine (is_any r s ⟨y.i, 0, a, d, y.t⟩ _ _ (by exact ((HF5.out.set4 (d : Int)).other hrp 1 _).alloc _) hs).mono ?_
    rw [isB_ok rfl]
    rintro e w7 ⟨rfl, hu7, hf7⟩
    have HP7 : Hid (PtAt w7 w.heap.size _) := (((HP5.out.other hrp.symm 4 _).set1 _).alloc _).upd hu7 (by simpa using hrp.symm)
    have HU7 : Hid (Upd [r, w.heap.size] w w7) := (((HU5.out.setCell (p := ⟨r, 4, none⟩) (by simp) _).setCell (p := ⟨w.heap.size, 1, none⟩) (by simp) _).alloc _).trans hu7.one
    have HU57 : Hid (Upd [r, w.heap.size] w5 w7) := ((((Upd.refl _ _).setCell (p := ⟨r, 4, none⟩) (by simp) _).setCell (p := ⟨w.heap.size, 1, none⟩) (by simp) _).alloc _).trans hu7.one
    have HC7 : Hid (PartsAt w7 (fun k => w.heap.size < k ∧ k < w5.heap.size) [c] [tr]) := HC5.out.upd HU57.out (by simp; omega)
    have HG7 : Hid (w7.heap[w5.heap.size]? = some (.cells #[ptr c] 74 (0, 0))) := group_slot hu7 (by omega)
    clear hu7 c0 c1 c2 c3 c4 c5 fz p0 p1 p258 p259 p260 p261 p262 p263 pz
    cases hb : Sp.isAt s y.i 41
    case true =>
      have HR : Hid (Sp.group (Sp.choice s k) s d ⟨i0, t⟩ = .ok (⟨gLab true (t + 1).toNat, [tr]⟩, ⟨y.i + 1, y.t⟩)) := by show _ = _; rw [HG'.out]; simp [Sp.need, hb]
      have HF7 : Hid (RdAt w7 r s ⟨y.i + 1, 0, a, d, y.t⟩) := by rw [hb] at hf7; exact hf7
      clear hb hf7
      go_wp2_with fail
      go_ret
      exact group_ok HR.out HU7.out HF7.out HP7.out hp5' HG7.out HC7.out
    case false =>
      have HR : Hid (Sp.group (Sp.choice s k) s d ⟨i0, t⟩ = .error (3, y.i)) := by show _ = _; rw [HG'.out]; simp [Sp.need, hb]
      have HF7 : Hid (RdAt w7 r s ⟨y.i, 0, a, d, y.t⟩) := by rw [hb] at hf7; exact hf7
      clear hb hf7
      obtain ⟨c0, c1, c2, c3, c4, c5, fz⟩ := HF7.out.facts
      go_wp2_with fail
      refine (fail_any r s ⟨y.i, 0, a, d, y.t⟩ _ _ _ (by exact HF7.out)).mono ?_
      rw [RS.fail_ok rfl]
      rintro e w8 ⟨rfl, hu8, hf8⟩
      have HP8 : Hid (PtAt w8 w.heap.size _) := HP7.out.upd hu8 (by simpa using hrp.symm)
      have HU8 : Hid (Upd [r, w.heap.size] w w8) := HU7.out.trans hu8.one
      clear hu8
      go_wp2_with fail
      go_ret
      exact group_no HR.out (by decide) HU8.out hf8 HP8.out

theorem group_any (r : Nat) (s : ByteArray) (i0 : Nat) (a : Int) (d : Nat) (t : Int) (w : World) (h : RdAt w r s ⟨i0 + 1, 0, a, d, t⟩) (hs : s.size ≤ 200) (hi : i0 + 1 ≤ s.size) (hd9 : d ≤ 8) (ht0 : 0 ≤ t) (ht9 : t ≤ 9) (k : Nat) (hsub : d < 8 → ChoiceC k) (hk : (d : Int) = 8 - (k : Int)) :
    Calls Tryz.prog 109 #[.pointer (some ⟨r, 0, none⟩)] w (PartOut r s ⟨i0 + 1, 0, a, d, t⟩ w (Sp.group (Sp.choice s k) s d ⟨i0, t⟩)) := by
  by_cases hd8 : 8 ≤ d
  · exact group_deep r s i0 a d t w _ h hs hi hd9 ht0 ht9 hd8
  cases q1 : Sp.isAt s (i0 + 1) 63 with
  | true =>
    cases q2 : Sp.isAt s (i0 + 1 + 1) 58 with
    | true => exact group_quiet r s i0 a d t w h hs hi hd9 ht0 ht9 k (hsub (by omega)) (by omega) hd8 q1 q2
    | false => exact group_quiet_no r s i0 a d t w _ h hs hi hd9 ht0 ht9 hd8 q1 q2
  | false =>
    by_cases q2 : 9 < t + 1
    · exact group_many r s i0 a d t w _ h hs hi hd9 ht0 ht9 hd8 q1 q2
    · exact group_told r s i0 a d t w h hs hi hd9 ht0 ht9 k (hsub (by omega)) (by omega) hd8 q1 q2
end Go.Proofs.YtcpfpnjkfahjcaaGreat
