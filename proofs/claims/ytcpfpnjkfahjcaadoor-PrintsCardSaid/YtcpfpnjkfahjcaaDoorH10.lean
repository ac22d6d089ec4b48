import Derived.Test.YtcpfpnjkfahjcaaDoorH09
set_option linter.unusedSimpArgs false
set_option linter.unusedVariables false
namespace Go.Proofs.YtcpfpnjkfahjcaaDoor
open Go.RowKit

/-- What reading a group's head leaves. -/
def PHeadOut (r : Nat) (s : ByteArray) (x : RS) (w : World) (res : Sp.Res (Nat × Sp.At)) (k : Ending) (w' : World) : Prop :=
  Upd [r] w w' ∧ match res with
  | .ok (n, y) => k = .returned (.tuple #[.int .i64 n, .bool true]) ∧ PdAt w' r s { x with i := y.i, t := y.t }
  | .error (e, a) => ∃ v i' t', k = .returned (.tuple #[.int .i64 v, .bool false]) ∧ PdAt w' r s ⟨i', e, a, x.d, t'⟩
theorem PHeadOut.mk_ok {r : Nat} {s : ByteArray} {x : RS} {w w' : World} {res : Sp.Res (Nat × Sp.At)} {k : Ending} (n : Nat) (y : Sp.At) (h : res = .ok (n, y)) (u : Upd [r] w w') (hk : k = .returned (.tuple #[.int .i64 n, .bool true])) (hr : PdAt w' r s { x with i := y.i, t := y.t }) : PHeadOut r s x w res k w' := by
  subst h; exact ⟨u, hk, hr⟩
theorem PHeadOut.mk_error {r : Nat} {s : ByteArray} {x : RS} {w w' : World} {res : Sp.Res (Nat × Sp.At)} {k : Ending} (e a v : Int) (i' : Nat) (t' : Int) (h : res = .error (e, a)) (u : Upd [r] w w') (hk : k = .returned (.tuple #[.int .i64 v, .bool false])) (hr : PdAt w' r s ⟨i', e, a, x.d, t'⟩) : PHeadOut r s x w res k w' := by
  subst h; exact ⟨u, v, i', t', hk, hr⟩

theorem head_deep {s : ByteArray} {d : Nat} {x : Sp.At} (h : 8 ≤ d) : Sp.head s d x = .error (5, x.i) := by unfold Sp.head; rw [if_pos h]
theorem head_q {s : ByteArray} {d : Nat} {i : Nat} {t : Int} (h : ¬ 8 ≤ d) (h1 : Sp.isAt s (i + 1) 63 = true) : Sp.head s d ⟨i, t⟩ = if Sp.isAt s (i + 2) 58 then .ok (0, ⟨i + 2 + 1, t⟩) else .error (3, (i + 2 : Nat)) := by
  unfold Sp.head; rw [if_neg h, if_pos h1]; unfold Sp.need; cases Sp.isAt s (i + 2) 58 <;> rfl
theorem head_many {s : ByteArray} {d : Nat} {i : Nat} {t : Int} (h : ¬ 8 ≤ d) (h1 : Sp.isAt s (i + 1) 63 = false) (h2 : 9 ≤ t) : Sp.head s d ⟨i, t⟩ = .error (6, i) := by
  unfold Sp.head; rw [if_neg h, if_neg (by rw [h1]; simp), if_pos h2]
theorem head_told {s : ByteArray} {d : Nat} {i : Nat} {t : Int} (h : ¬ 8 ≤ d) (h1 : Sp.isAt s (i + 1) 63 = false) (h2 : ¬ 9 ≤ t) : Sp.head s d ⟨i, t⟩ = .ok ((t + 1).toNat, ⟨i + 1, t + 1⟩) := by
  unfold Sp.head; rw [if_neg h, if_neg (by rw [h1]; simp), if_neg h2]

set_option maxHeartbeats 800000 in
theorem pGroupHead_any (r : Nat) (s : ByteArray) (i0 : Nat) (e0 a0 : Int) (d : Nat) (t : Int) (w : World) (h : PdAt w r s ⟨i0, e0, a0, d, t⟩) (hi : i0 < s.size) (hs : s.size ≤ 200) (hd : d ≤ 8) (ht0 : 0 ≤ t) (ht9 : t ≤ 9) :
    Calls Tryd.prog 81 #[.pointer (some ⟨r, 0, none⟩)] w (PHeadOut r s ⟨i0, e0, a0, d, t⟩ w (Sp.head s d ⟨i0, t⟩)) := by
  obtain ⟨c0, c1, c2, c3, c4, c5, fz⟩ := h.facts
  have hh : Hid (PdAt w r s ⟨i0, e0, a0, d, t⟩) := h
  clear h
  by_cases hd8 : 8 ≤ d
  · have HR : Hid (Sp.head s d ⟨i0, t⟩ = .error (5, i0)) := head_deep hd8
    have hd8' : (8 : Int) ≤ d := by omega
    go_enter Tryd.func81, Tryd.ntmps81
    go_wp2_with fail
    refine (pRefuse_any r s ⟨i0, e0, a0, d, t⟩ _ _ _ (by exact hh.out)).mono ?_
    rintro e w1 ⟨rfl, hu, hf⟩
    go_wp2_with fail
    go_ret2
    exact PHeadOut.mk_error _ _ 0 i0 t HR.out hu rfl hf
  · have hd8' : ¬ (8 : Int) ≤ d := by omega
    have HF0 : Hid (PdAt (w.setCell ⟨r, 1, none⟩ (.int .i64 ((i0 + 1 : Nat) : Int))) r s ⟨i0 + 1, e0, a0, d, t⟩) := hh.out.set1 (i0 + 1)
    cases h1 : Sp.isAt s (i0 + 1) 63 with
    | true =>
      have H1 : Hid (Sp.isAt s (i0 + 1) 63 = true) := h1
      have hi2 := Sp.isAt_lt h1
      have HR : Hid (Sp.head s d ⟨i0, t⟩ = if Sp.isAt s (i0 + 2) 58 then .ok (0, ⟨i0 + 2 + 1, t⟩) else .error (3, (i0 + 2 : Nat))) := head_q hd8 h1
      clear h1
      go_enter Tryd.func81, Tryd.ntmps81
      go_wp2_with fail
      refine (pTake_yes r s ⟨i0 + 1, e0, a0, d, t⟩ _ _ (by exact HF0.out) hs H1.out).mono ?_
      rintro e w1 ⟨rfl, hu, hf⟩
      have HU1 : Hid (Upd [r] w w1) := (by refine Upd.trans ?_ hu; (repeat (first | exact Upd.refl _ _ | refine Upd.drewN ?_ | refine Upd.drew ?_ | refine Upd.setCell ?_ (by simp) _ | refine Upd.alloc ?_ _)) : Upd [r] w w1)
      have HF1 : Hid (PdAt w1 r s ⟨i0 + 2, e0, a0, d, t⟩) := hf
      clear hu hf
      go_wp2_with fail
      refine (pNeed_any r s ⟨i0 + 2, e0, a0, d, t⟩ _ _ (by exact HF1.out) (by exact hi2) hs).mono ?_
      rintro e w2 ⟨rfl, hu2, hf2⟩
      cases h2 : Sp.isAt s (i0 + 2) 58 with
      | true =>
        rw [show Sp.isAt s _ 58 = true from h2] at hf2
        have HR' : Hid (Sp.head s d ⟨i0, t⟩ = .ok (0, ⟨i0 + 2 + 1, t⟩)) := by show _ = _; rw [HR.out, h2]; rfl
        clear h2
        go_wp2_with fail
        go_ret2
        exact PHeadOut.mk_ok 0 _ HR'.out (HU1.out.trans hu2) rfl hf2
      | false =>
        rw [show Sp.isAt s _ 58 = false from h2] at hf2
        have HR' : Hid (Sp.head s d ⟨i0, t⟩ = .error (3, (i0 + 2 : Nat))) := by show _ = _; rw [HR.out, h2]; rfl
        clear h2
        go_wp2_with fail
        go_ret2
        exact PHeadOut.mk_error _ _ 0 (i0 + 2) t HR'.out (HU1.out.trans hu2) rfl hf2
    | false =>
      have H1 : Hid (Sp.isAt s (i0 + 1) 63 = false) := h1
      clear h1
      by_cases h9 : 9 ≤ t
      · have HR : Hid (Sp.head s d ⟨i0, t⟩ = .error (6, i0)) := head_many hd8 H1.out h9
        go_enter Tryd.func81, Tryd.ntmps81
        go_wp2_with fail
        refine (pTake_no r s ⟨i0 + 1, e0, a0, d, t⟩ _ _ (by exact HF0.out) (by exact hi) hs H1.out).mono ?_
        rintro e w1 ⟨rfl, hu, hf⟩
        have HU1 : Hid (Upd [r] w w1) := (by refine Upd.trans ?_ hu; (repeat (first | exact Upd.refl _ _ | refine Upd.drewN ?_ | refine Upd.drew ?_ | refine Upd.setCell ?_ (by simp) _ | refine Upd.alloc ?_ _)) : Upd [r] w w1)
        have HF1 : Hid (PdAt w1 r s ⟨i0 + 1, e0, a0, d, t⟩) := hf
        obtain ⟨d0, d1, d2, d3, d4, d5, dz⟩ := HF1.out.facts
        clear hu hf c0 c1 c2 c3 c4 c5 fz
        go_wp2_with fail
        refine (pRefuse_any r s ⟨i0 + 1, e0, a0, d, t⟩ _ _ _ (by exact HF1.out)).mono ?_
        rintro e w2 ⟨rfl, hu2, hf2⟩
        go_wp2_with fail
        go_ret2
        exact PHeadOut.mk_error _ _ 0 (i0 + 1) t HR.out (HU1.out.trans hu2) rfl hf2
      · have HR : Hid (Sp.head s d ⟨i0, t⟩ = .ok ((t + 1).toNat, ⟨i0 + 1, t + 1⟩)) := head_told hd8 H1.out h9
        go_enter Tryd.func81, Tryd.ntmps81
        go_wp2_with fail
        refine (pTake_no r s ⟨i0 + 1, e0, a0, d, t⟩ _ _ (by exact HF0.out) (by exact hi) hs H1.out).mono ?_
        rintro e w1 ⟨rfl, hu, hf⟩
        have HU1 : Hid (Upd [r] w w1) := (by refine Upd.trans ?_ hu; (repeat (first | exact Upd.refl _ _ | refine Upd.drewN ?_ | refine Upd.drew ?_ | refine Upd.setCell ?_ (by simp) _ | refine Upd.alloc ?_ _)) : Upd [r] w w1)
        have HF1 : Hid (PdAt w1 r s ⟨i0 + 1, e0, a0, d, t⟩) := hf
        obtain ⟨d0, d1, d2, d3, d4, d5, dz⟩ := HF1.out.facts
        clear hu hf c0 c1 c2 c3 c4 c5 fz
        go_wp2_with fail
        go_ret2
        exact PHeadOut.mk_ok _ _ HR.out (HU1.out.setCell (by simp) _) (tup2 (int_eq (by omega)) rfl) (HF1.out.set3 (t + 1))

/-- The program's choice, as its callers take it. -/
def PChoiceC (k : Nat) : Prop := ∀ (r : Nat) (s : ByteArray) (x : RS) (w : World), PdAt w r s x → s.size ≤ 200 → x.i ≤ s.size → x.d = 9 - (k : Int) → 0 ≤ x.t → x.t ≤ 9 →
  Calls Tryd.prog 25 #[.pointer (some ⟨r, 0, none⟩)] w (PNodeOut r s x w (Sp.choice s k ⟨x.i, x.t⟩))

theorem NodesAt.over {w : World} {S : Nat → Prop} {p c n : Nat} {t : Tr} {l : Value} {a : Lab} (ha : a = { Sp.blank with kind := 3, told := decide (n ≠ 0), num := n }) (h : TnAt w p { kind := 3, size := max (psz t) 1, parts := l, byte := 0, s0 := 0, s1 := 0, s2 := 0, s3 := 0, not := false, num := n, least := 0, most := 0 })
    (ho : w.ownsRow 0 34 1 l 1 [ptr c]) (hl : ∀ g, l.ownBlock = some g → S g) (hS : S p) (hc : NodesAt w S [c] [t]) : NodesAt w S [p] [⟨a, [t]⟩] := by
  subst ha
  rw [NodesAt_cons]
  refine ⟨⟨p, l, [c], Or.inl ⟨by simp [Sp.blank], rfl⟩, hS, ?_, ho, hl, hc⟩, NodesAt_nil _ _⟩
  rw [psz_group (t := bareOf _) (by simp [bareOf]) rfl]
  show TnAt w p (tnOf _ (max (pszs [t]) 1) l)
  rw [pszs_one]; exact h

theorem group_1 {sub : Sp.At → Sp.Res (Tr × Sp.At)} {s : ByteArray} {d : Nat} {x : Sp.At} {f : Sp.Fault} (h : Sp.head s d x = .error f) : Sp.group sub s d x = .error f := by unfold Sp.group; rw [h]
theorem group_2 {sub : Sp.At → Sp.Res (Tr × Sp.At)} {s : ByteArray} {d n : Nat} {x y : Sp.At} {f : Sp.Fault} (h : Sp.head s d x = .ok (n, y)) (h2 : sub y = .error f) : Sp.group sub s d x = .error f := by unfold Sp.group; rw [h]; simp only [h2]
theorem group_3 {sub : Sp.At → Sp.Res (Tr × Sp.At)} {s : ByteArray} {d n : Nat} {x y z : Sp.At} {t : Tr} (h : Sp.head s d x = .ok (n, y)) (h2 : sub y = .ok (t, z)) : Sp.group sub s d x = if Sp.isAt s z.i 41 then .ok (⟨{ Sp.blank with kind := 3, told := decide (n ≠ 0), num := n }, [t]⟩, ⟨z.i + 1, z.t⟩) else .error (3, z.i) := by
  unfold Sp.group; rw [h]; simp only [h2, Sp.need]; cases Sp.isAt s z.i 41 <;> rfl

set_option maxHeartbeats 1000000 in
theorem pGroup_any (r : Nat) (s : ByteArray) (i0 : Nat) (e0 a0 : Int) (d : Nat) (t : Int) (w : World) (h : PdAt w r s ⟨i0, e0, a0, d, t⟩) (hi : i0 < s.size) (hs : s.size ≤ 200) (hd : d ≤ 8) (ht0 : 0 ≤ t) (ht9 : t ≤ 9) (k : Nat) (hsub : d < 8 → PChoiceC k) (hk : (d : Int) = 8 - (k : Int)) :
    Calls Tryd.prog 72 #[.pointer (some ⟨r, 0, none⟩)] w (PNodeOut r s ⟨i0, e0, a0, d, t⟩ w (Sp.group (Sp.choice s k) s d ⟨i0, t⟩)) := by
  have hr := lt_of_heap h
  have hh : Hid (PdAt w r s ⟨i0, e0, a0, d, t⟩) := h
  have HK : Hid ((d : Int) = 8 - (k : Int)) := hk
  have HSUB : Hid (d < 8 → PChoiceC k) := hsub
  clear h hk hsub
  cases h1 : Sp.head s d ⟨i0, t⟩ with
  | error p =>
    obtain ⟨e1, a1⟩ := p
    have H1 : Hid (Sp.head s d ⟨i0, t⟩ = .error (e1, a1)) := h1
    clear h1
    go_enter Tryd.func72, Tryd.ntmps72
    go_wp2_with fail
    refine (pGroupHead_any r s i0 e0 a0 d t _ (by exact hh.out) hi hs hd ht0 ht9).mono ?_
    rw [H1.out]
    rintro e w1 ⟨hu, v, i', t', rfl, hf⟩
    go_wp2_with fail
    go_ret2
    exact PNodeOut.mk_error _ _ i' t' (group_1 H1.out) hu rfl hf
  | ok p =>
    obtain ⟨n, y⟩ := p
    have H1 : Hid (Sp.head s d ⟨i0, t⟩ = .ok (n, y)) := h1
    have hd8 : d < 8 := by
      rcases Nat.lt_or_ge d 8 with q | q
      · exact q
      · rw [head_deep q] at h1; cases h1
    obtain ⟨hy1, hy2, hy3, hy4⟩ := Sp.head_ok h1 (by exact hi) ht0 ht9
    clear h1
    go_enter Tryd.func72, Tryd.ntmps72
    go_wp2_with fail
    refine (pGroupHead_any r s i0 e0 a0 d t _ (by exact hh.out) hi hs hd ht0 ht9).mono ?_
    rw [H1.out]
    rintro e w1 ⟨hu, rfl, hf⟩
    have HU1 : Hid (Upd [r] w w1) := hu
    have HF1 : Hid (PdAt w1 r s ⟨y.i, e0, a0, d, y.t⟩) := hf
    obtain ⟨c0, c1, c2, c3, c4, c5, fz⟩ := HF1.out.facts
    clear hu hf
    have HF2 : Hid (PdAt (w1.setCell ⟨r, 2, none⟩ (.int .i64 ((d : Int) + 1))) r s ⟨y.i, e0, a0, (d : Int) + 1, y.t⟩) := HF1.out.set2 ((d : Int) + 1)
    go_wp2_with fail
    refine (HSUB.out hd8 r s ⟨y.i, e0, a0, (d : Int) + 1, y.t⟩ _ (by exact HF2.out) hs (by exact hy2) (by have := HK.out; show (d : Int) + 1 = _; omega) hy3 hy4).mono ?_
    rintro e w3 ⟨hu3, hq3⟩
    have HU3 : Hid (Upd [r] w w3) := (HU1.out.setCell (by simp) _).trans hu3
    have hw3 : w.heap.size ≤ w3.heap.size := HU3.out.size
    have HB3 : Hid (Upd [r] (w1.setCell ⟨r, 2, none⟩ (.int .i64 ((d : Int) + 1))) w3) := hu3
    clear hu3 c0 c1 c2 c3 c4 c5 fz
    revert hq3
    cases h2 : Sp.choice s k ⟨y.i, y.t⟩ with
    | error p =>
      obtain ⟨e1, a1⟩ := p
      rintro ⟨i', t', rfl, hf3⟩
      have HF3 : Hid (PdAt w3 r s ⟨i', e1, a1, (d : Int) + 1, t'⟩) := hf3
      have HR : Hid (Sp.group (Sp.choice s k) s d ⟨i0, t⟩ = .error (e1, a1)) := group_2 H1.out h2
      obtain ⟨c0, c1, c2, c3, c4, c5, fz⟩ := HF3.out.facts
      clear hf3 h2
      go_wp2_with fail
      go_ret2
      exact PNodeOut.mk_error _ _ i' t' HR.out (HU3.out.setCell (by simp) _) rfl (HF3.out.set2 d)
    | ok p =>
      obtain ⟨tr, z⟩ := p
      rintro ⟨c, rfl, hn3, hf3⟩
      have HF3 : Hid (PdAt w3 r s ⟨z.i, e0, a0, (d : Int) + 1, z.t⟩) := hf3
      have HN3 : Hid (NodesAt w3 (fun k => w.heap.size ≤ k) [c] [tr]) := NodesAt.mono _ _ hn3 (fun k hk _ => by have : w.heap.size ≤ w1.heap.size := HU1.out.size; simp at hk; omega)
      have HR : Hid (Sp.group (Sp.choice s k) s d ⟨i0, t⟩ = if Sp.isAt s z.i 41 then .ok (⟨{ Sp.blank with kind := 3, told := decide (n ≠ 0), num := n }, [tr]⟩, ⟨z.i + 1, z.t⟩) else .error (3, z.i)) := group_3 H1.out h2
      obtain ⟨hz1, hz2, hz3, hz4⟩ := Sp.choice_good s k _ _ _ h2 hy2 hy3 hy4
      obtain ⟨c0, c1, c2, c3, c4, c5, fz⟩ := HF3.out.facts
      clear hf3 h2 hn3
      have HF4 : Hid (PdAt (w3.setCell ⟨r, 2, none⟩ (.int .i64 d)) r s ⟨z.i, e0, a0, d, z.t⟩) := HF3.out.set2 d
      unfold ptr
      go_wp2_with fail
      refine (pNeed_any r s ⟨z.i, e0, a0, d, z.t⟩ _ _ (by exact HF4.out) (by exact hz2) hs).mono ?_
      rintro e w4 ⟨rfl, hu4, hf4⟩
      have HU4 : Hid (Upd [r] w w4) := (HU3.out.setCell (by simp) _).trans hu4
      have HV4 : Hid (Upd [r] w3 w4) := ((Upd.refl [r] w3).setCell (by simp) _).trans hu4
      clear hu4
      cases h3 : Sp.isAt s z.i 41 with
      | false =>
        rw [show Sp.isAt s _ 41 = false from h3] at hf4
        have HR' : Hid (Sp.group (Sp.choice s k) s d ⟨i0, t⟩ = .error (3, z.i)) := by show _ = _; rw [HR.out, h3]; rfl
        clear h3
        go_wp2_with fail
        go_ret2
        exact PNodeOut.mk_error _ _ z.i z.t HR'.out HU4.out rfl hf4
      | true =>
        rw [show Sp.isAt s _ 41 = true from h3] at hf4
        have HR' : Hid (Sp.group (Sp.choice s k) s d ⟨i0, t⟩ = .ok (⟨{ Sp.blank with kind := 3, told := decide (n ≠ 0), num := n }, [tr]⟩, ⟨z.i + 1, z.t⟩)) := by show _ = _; rw [HR.out, h3]; rfl
        have HF5 : Hid (PdAt w4 r s ⟨z.i + 1, e0, a0, d, z.t⟩) := hf4
        have HN4 : Hid (NodesAt w4 (fun k => w.heap.size ≤ k) [c] [tr]) := HN3.out.upd HV4.out (fun k hk => by simp at hk; omega)
        have hsz := nodePsz HN4.out
        clear h3 hf4
        go_wp2_with fail
        refine (tGroup_any _ c (psz tr) _ (by exact hsz) (psz_nn tr) (psz_le tr)).mono ?_
        rintro e w5 ⟨p, l, rfl, hp, hu5, ht5, ho5, hl5⟩
        have hsz4 := HU4.out.size
        go_wp2_with fail
        go_ret2
        exact PNodeOut.mk_ok _ _ p HR'.out (HU4.out.shrink hu5 (by simp)) rfl (NodesAt.over rfl ht5 ho5 (fun g hg => by have := hl5 g hg; omega) (by omega) (HN4.out.upd hu5 (by simp))) (HF5.out.upd hu5 (by simp))
end Go.Proofs.YtcpfpnjkfahjcaaDoor

set_option linter.unusedSimpArgs false
set_option linter.unusedVariables false
namespace Go.Proofs.YtcpfpnjkfahjcaaDoor
open Go.RowKit

theorem pNext_is (r : Nat) (s : ByteArray) (x : RS) (b : Int) (v : Bool) (w : World) (h : PdAt w r s x) (hi : x.i ≤ s.size) (hv : Sp.isAt s x.i b = v) :
    Calls Tryd.prog 52 #[.pointer (some ⟨r, 0, none⟩), .int .u8 b] w fun e w' => e = .returned (.bool v) ∧ ∃ n, w' = w.drewN n :=
  (pNext_any r s x b w h hi).mono fun e w' q => ⟨by rw [q.1, hv], q.2⟩

theorem atom_1 {sub : Sp.At → Sp.Res (Tr × Sp.At)} {s : ByteArray} {d : Nat} {x : Sp.At} (h : Sp.isAt s x.i 40 = true) : Sp.atom sub s d x = Sp.group sub s d x := by unfold Sp.atom; rw [if_pos h]
theorem atom_2 {sub : Sp.At → Sp.Res (Tr × Sp.At)} {s : ByteArray} {d i : Nat} {t : Int} (h : Sp.isAt s i 40 = false) (h1 : Sp.isAt s i 91 = true) : Sp.atom sub s d ⟨i, t⟩ = match Sp.list s (i + 1) with | .error f => .error f | .ok (tr, j) => .ok (tr, ⟨j, t⟩) := by
  unfold Sp.atom; rw [if_neg (by rw [h]; simp), if_pos h1]; simp only; cases Sp.list s (i + 1) with
  | error f => rfl
  | ok p => rfl
theorem atom_3 {sub : Sp.At → Sp.Res (Tr × Sp.At)} {s : ByteArray} {d i : Nat} {t : Int} (h : Sp.isAt s i 40 = false) (h1 : Sp.isAt s i 91 = false) (h2 : Sp.isAt s i 46 = true) : Sp.atom sub s d ⟨i, t⟩ = .ok (⟨{ Sp.blank with kind := 1, set := fun c => c == 10, not := true }, []⟩, ⟨i + 1, t⟩) := by
  unfold Sp.atom; rw [if_neg (by rw [h]; simp), if_neg (by rw [h1]; simp), if_pos h2]
theorem atom_4 {sub : Sp.At → Sp.Res (Tr × Sp.At)} {s : ByteArray} {d i : Nat} {t : Int} (h : Sp.isAt s i 40 = false) (h1 : Sp.isAt s i 91 = false) (h2 : Sp.isAt s i 46 = false) : Sp.atom sub s d ⟨i, t⟩ = match Sp.byteBut false s i with | .error f => .error f | .ok (b, j) => .ok (⟨bLab b, []⟩, ⟨j, t⟩) := by
  unfold Sp.atom; rw [if_neg (by rw [h]; simp), if_neg (by rw [h1]; simp), if_neg (by rw [h2]; simp)]; rfl

set_option maxHeartbeats 1000000 in
theorem pAtom_any (r : Nat) (s : ByteArray) (i0 : Nat) (e0 a0 : Int) (d : Nat) (t : Int) (w : World) (h : PdAt w r s ⟨i0, e0, a0, d, t⟩) (hi : i0 ≤ s.size) (hs : s.size ≤ 200) (hd : d ≤ 8) (ht0 : 0 ≤ t) (ht9 : t ≤ 9) (k : Nat) (hsub : d < 8 → PChoiceC k) (hk : (d : Int) = 8 - (k : Int)) :
    Calls Tryd.prog 64 #[.pointer (some ⟨r, 0, none⟩)] w (PNodeOut r s ⟨i0, e0, a0, d, t⟩ w (Sp.atom (Sp.choice s k) s d ⟨i0, t⟩)) := by
  have hr := lt_of_heap h
  have hh : Hid (PdAt w r s ⟨i0, e0, a0, d, t⟩) := h
  have HK : Hid ((d : Int) = 8 - (k : Int)) := hk
  have HSUB : Hid (d < 8 → PChoiceC k) := hsub
  clear h hk hsub
  cases h1 : Sp.isAt s i0 40 with
  | true =>
    have H1 : Hid (Sp.isAt s i0 40 = true) := h1
    have hlt := Sp.isAt_lt h1
    have HR : Hid (Sp.atom (Sp.choice s k) s d ⟨i0, t⟩ = Sp.group (Sp.choice s k) s d ⟨i0, t⟩) := atom_1 (by exact h1)
    clear h1
    go_enter Tryd.func64, Tryd.ntmps64
    go_wp2_with fail
    refine (pNext_is r s ⟨i0, e0, a0, d, t⟩ _ true _ (by exact hh.out) hi H1.out).mono ?_
    rintro e w1 ⟨rfl, n1, rfl⟩
    go_wp2_with fail
    refine (pGroup_any r s i0 e0 a0 d t _ (by exact hh.out.drewN n1) hlt hs hd ht0 ht9 k HSUB.out HK.out).mono ?_
    rintro e w2 ⟨hu, hq⟩
    have HU : Hid (Upd [r] w w2) := ((drewN_upd _ _ _).trans hu : Upd [r] w w2)
    clear hu
    revert hq
    cases h2 : Sp.group (Sp.choice s k) s d ⟨i0, t⟩ with
    | ok p =>
      obtain ⟨tr, y⟩ := p
      rintro ⟨p, rfl, hn, hf⟩
      have HR' : Hid (Sp.atom (Sp.choice s k) s d ⟨i0, t⟩ = .ok (tr, y)) := HR.out.trans h2
      clear h2
      unfold ptr
      go_wp2_with fail
      go_ret2
      exact PNodeOut.mk_ok _ _ p HR'.out HU.out rfl hn hf
    | error p =>
      obtain ⟨e1, a1⟩ := p
      rintro ⟨i', t', rfl, hf⟩
      have HR' : Hid (Sp.atom (Sp.choice s k) s d ⟨i0, t⟩ = .error (e1, a1)) := HR.out.trans h2
      clear h2
      go_wp2_with fail
      go_ret2
      exact PNodeOut.mk_error _ _ i' t' HR'.out HU.out rfl hf
  | false =>
    have H1 : Hid (Sp.isAt s i0 40 = false) := h1
    clear h1
    cases h2 : Sp.isAt s i0 91 with
    | true =>
      have H2 : Hid (Sp.isAt s i0 91 = true) := h2
      have hlt := Sp.isAt_lt h2
      have HR : Hid (Sp.atom (Sp.choice s k) s d ⟨i0, t⟩ = listR s ⟨i0 + 1, e0, a0, d, t⟩) := atom_2 H1.out h2
      clear h2
      go_enter Tryd.func64, Tryd.ntmps64
      go_wp2_with fail
      refine (pNext_is r s ⟨i0, e0, a0, d, t⟩ _ false _ (by exact hh.out) hi H1.out).mono ?_
      rintro e w1 ⟨rfl, n1, rfl⟩
      go_wp2_with fail
      refine (pTake_yes r s ⟨i0, e0, a0, d, t⟩ _ _ (by exact hh.out.drewN n1) hs H2.out).mono ?_
      rintro e w2 ⟨rfl, hu2, hf2⟩
      have HU2 : Hid (Upd [r] w w2) := ((drewN_upd _ _ _).trans hu2 : Upd [r] w w2)
      have hsz2 := HU2.out.size
      clear hu2
      go_wp2_with fail
      refine (pList_any r s ⟨i0 + 1, e0, a0, d, t⟩ _ (by exact hf2) (by exact hlt) hs).mono ?_
      rintro e w3 ⟨hu3, hq⟩
      have HU3 : Hid (Upd [r] w w3) := HU2.out.trans hu3
      clear hu3 hf2
      revert hq
      cases h3 : listR s ⟨i0 + 1, e0, a0, d, t⟩ with
      | ok p =>
        obtain ⟨tr, y⟩ := p
        rintro ⟨p, rfl, hn, hf⟩
        have HR' : Hid (Sp.atom (Sp.choice s k) s d ⟨i0, t⟩ = .ok (tr, y)) := HR.out.trans h3
        clear h3
        unfold ptr
        go_wp2_with fail
        go_ret2
        exact PNodeOut.mk_ok _ _ p HR'.out HU3.out rfl (NodesAt.mono _ _ hn (fun k hk _ => by have hk' : w2.heap.size ≤ k := hk; omega)) hf
      | error p =>
        obtain ⟨e1, a1⟩ := p
        rintro ⟨i', t', rfl, hf⟩
        have HR' : Hid (Sp.atom (Sp.choice s k) s d ⟨i0, t⟩ = .error (e1, a1)) := HR.out.trans h3
        clear h3
        go_wp2_with fail
        go_ret2
        exact PNodeOut.mk_error _ _ i' t' HR'.out HU3.out rfl hf
    | false =>
      have H2 : Hid (Sp.isAt s i0 91 = false) := h2
      clear h2
      cases h3 : Sp.isAt s i0 46 with
      | true =>
        have H3 : Hid (Sp.isAt s i0 46 = true) := h3
        have HR : Hid (Sp.atom (Sp.choice s k) s d ⟨i0, t⟩ = .ok (⟨{ Sp.blank with kind := 1, set := fun c => c == 10, not := true }, []⟩, ⟨i0 + 1, t⟩)) := atom_3 H1.out H2.out h3
        clear h3
        go_enter Tryd.func64, Tryd.ntmps64
        go_wp2_with fail
        refine (pNext_is r s ⟨i0, e0, a0, d, t⟩ _ false _ (by exact hh.out) hi H1.out).mono ?_
        rintro e w1 ⟨rfl, n1, rfl⟩
        go_wp2_with fail
        refine (pTake_no r s ⟨i0, e0, a0, d, t⟩ _ _ (by exact hh.out.drewN n1) hi hs H2.out).mono ?_
        rintro e w2 ⟨rfl, hu2, hf2⟩
        have HU2 : Hid (Upd [r] w w2) := ((drewN_upd _ _ _).trans hu2 : Upd [r] w w2)
        clear hu2
        go_wp2_with fail
        refine (pTake_yes r s ⟨i0, e0, a0, d, t⟩ _ _ (by exact hf2) hs H3.out).mono ?_
        rintro e w3 ⟨rfl, hu3, hf3⟩
        have HU3 : Hid (Upd [r] w w3) := HU2.out.trans hu3
        have hsz3 := HU3.out.size
        have HF3 : Hid (PdAt w3 r s ⟨i0 + 1, e0, a0, d, t⟩) := hf3
        clear hu3 hf2 hf3
        go_wp2_with fail
        refine (tAny_any _).mono ?_
        rintro e w4 ⟨p, rfl, hp, hu4, ht4⟩
        go_wp2_with fail
        go_ret2
        exact PNodeOut.mk_ok _ _ p HR.out (HU3.out.shrink hu4 (by simp)) rfl (NodesAt.leaf (by simp [Sp.blank]) (by simp) (by omega) (by simpa [tnOf, kindP, wordP] using ht4)) (HF3.out.upd hu4 (by simp))
      | false =>
        have H3 : Hid (Sp.isAt s i0 46 = false) := h3
        have HR : Hid (Sp.atom (Sp.choice s k) s d ⟨i0, t⟩ = match Sp.byteBut false s i0 with | .error f => .error f | .ok (b, j) => .ok (⟨bLab b, []⟩, ⟨j, t⟩)) := atom_4 H1.out H2.out h3
        clear h3
        go_enter Tryd.func64, Tryd.ntmps64
        go_wp2_with fail
        refine (pNext_is r s ⟨i0, e0, a0, d, t⟩ _ false _ (by exact hh.out) hi H1.out).mono ?_
        rintro e w1 ⟨rfl, n1, rfl⟩
        go_wp2_with fail
        refine (pTake_no r s ⟨i0, e0, a0, d, t⟩ _ _ (by exact hh.out.drewN n1) hi hs H2.out).mono ?_
        rintro e w2 ⟨rfl, hu2, hf2⟩
        have HU2 : Hid (Upd [r] w w2) := ((drewN_upd _ _ _).trans hu2 : Upd [r] w w2)
        clear hu2
        go_wp2_with fail
        refine (pTake_no r s ⟨i0, e0, a0, d, t⟩ _ _ (by exact hf2) hi hs H3.out).mono ?_
        rintro e w3 ⟨rfl, hu3, hf3⟩
        have HU3 : Hid (Upd [r] w w3) := HU2.out.trans hu3
        have HF3 : Hid (PdAt w3 r s ⟨i0, e0, a0, d, t⟩) := hf3
        clear hu3 hf2 hf3
        go_wp2_with fail
        refine (pByteBut_any false r s ⟨i0, e0, a0, d, t⟩ _ (by exact HF3.out) hi hs).mono ?_
        rintro e w4 ⟨hu4, hq⟩
        have HU4 : Hid (Upd [r] w w4) := HU3.out.trans hu4
        have hsz4 := HU4.out.size
        clear hu4
        revert hq
        cases h4 : Sp.byteBut false s i0 with
        | ok p =>
          obtain ⟨b, j⟩ := p
          rintro ⟨rfl, hf⟩
          have HR' : Hid (Sp.atom (Sp.choice s k) s d ⟨i0, t⟩ = .ok (⟨bLab b, []⟩, ⟨j, t⟩)) := by show _ = _; rw [HR.out, h4]
          obtain ⟨hb0, hb1, _, _⟩ := byteBut_ok h4
          have HF4 : Hid (PdAt w4 r s ⟨j, e0, a0, d, t⟩) := hf
          clear h4 hf
          go_wp2_with fail
          refine (tByte_any b _).mono ?_
          rintro e w5 ⟨p, rfl, hp, hu5, ht5⟩
          go_wp2_with fail
          go_ret2
          exact PNodeOut.mk_ok _ _ p HR'.out (HU4.out.shrink hu5 (by simp)) rfl (NodesAt.leaf (by simp [bLab, Sp.blank]) (by simp [bLab]) (by omega) (by simpa [tnOf, kindP, wordP, bLab, show ((b.toNat : Nat) : Int) = b by omega, hb0] using ht5)) (HF4.out.upd hu5 (by simp))
        | error p =>
          obtain ⟨e1, a1⟩ := p
          rintro ⟨v, i', rfl, hf⟩
          have HR' : Hid (Sp.atom (Sp.choice s k) s d ⟨i0, t⟩ = .error (e1, a1)) := by show _ = _; rw [HR.out, h4]
          clear h4
          go_wp2_with fail
          go_ret2
          exact PNodeOut.mk_error _ _ i' t HR'.out HU4.out rfl hf
end Go.Proofs.YtcpfpnjkfahjcaaDoor
