import Derived.Test.YtcpfpnjkfahjcaaDoorH10
set_option linter.unusedSimpArgs false
set_option linter.unusedVariables false
namespace Go.Proofs.YtcpfpnjkfahjcaaDoor
open Go.RowKit

theorem upperR_bd {m : Int} {s : ByteArray} {i j : Nat} {v : Int} (h : upperR m s i = .ok (v, j)) : -1 ≤ v ∧ v ≤ 20 := by
  unfold upperR at h; split at h
  · have := number_bd0 h; omega
  · cases h; omega
theorem bounds_bd0 {s : ByteArray} {i j : Nat} {m n : Int} (h : Sp.bounds s i = .ok (m, n, j)) : 0 ≤ m ∧ m ≤ 20 ∧ -1 ≤ n ∧ n ≤ 20 := by
  cases h1 : Sp.number 0 s i with
  | error f => rw [bounds_1 h1] at h; cases h
  | ok p =>
    obtain ⟨m', j'⟩ := p
    have b1 := number_bd0 h1
    cases h2 : Sp.isAt s j' 44 with
    | false =>
      rw [bounds_4 h1 h2] at h; split at h
      · cases h; omega
      · cases h
    | true =>
      cases h3 : upperR m' s (j' + 1) with
      | error f => rw [bounds_2 h1 h2 h3] at h; cases h
      | ok p =>
        obtain ⟨n', k'⟩ := p
        have b2 := upperR_bd h3
        rw [bounds_3 h1 h2 h3] at h; split at h
        · cases h; omega
        · cases h

theorem NodesAt.turn {w : World} {S : Nat → Prop} {p q : Nat} {t : Tr} {l : Value} {m n : Int} (hm : t.lab.min = -1) (h0 : 0 ≤ m) (h : TnAt w p (tnTurns (min (psz t * tTimes m n) 61) l m n)) (ho : w.ownsRow 0 34 1 l 1 [ptr q]) (hl : ∀ g, l.ownBlock = some g → S g) (hS : S p) (hc : NodesAt w S [q] [t]) :
    NodesAt w S [p] [⟨{ t.lab with min := m, max := n }, t.kids⟩] := by
  have hz : psz ⟨{ t.lab with min := m, max := n }, t.kids⟩ = min (psz t * tTimes m n) 61 := psz_turns (by omega) h0
  obtain ⟨a, ks⟩ := t
  rw [NodesAt_cons] at hc ⊢
  obtain ⟨⟨q', l', qs, h1, h2, h3, h4, h5, h6⟩, _⟩ := hc
  have e : q' = q := by
    rcases h1 with h1 | h1
    · exact h1.2
    · have h1' := h1.1; simp only at hm; omega
  subst e
  refine ⟨⟨q', l', qs, Or.inr ⟨h0, hS, l, ?_, ho, hl⟩, h2, ?_, h4, h5, h6⟩, NodesAt_nil _ _⟩
  · rw [hz]; exact h
  · have : psz (bareOf ⟨{ a with min := m, max := n }, ks⟩) = psz (bareOf ⟨a, ks⟩) := by
      unfold psz bareOf Sp.size Sp.sz1 Sp.szB; simp
    rw [this]; exact h3

theorem part_1 {sub : Sp.At → Sp.Res (Tr × Sp.At)} {s : ByteArray} {d : Nat} {x : Sp.At} {f : Sp.Fault} (h : Sp.atom sub s d x = .error f) : Sp.part sub s d x = .error f := by unfold Sp.part; rw [h]
theorem part_2 {sub : Sp.At → Sp.Res (Tr × Sp.At)} {s : ByteArray} {d : Nat} {x y : Sp.At} {t : Tr} {f : Sp.Fault} (h : Sp.atom sub s d x = .ok (t, y)) (h2 : Sp.count s y.i = .error f) : Sp.part sub s d x = .error f := by unfold Sp.part; rw [h]; simp only [h2]
theorem part_3 {sub : Sp.At → Sp.Res (Tr × Sp.At)} {s : ByteArray} {d : Nat} {x y : Sp.At} {t : Tr} {m n : Int} {j : Nat} (h : Sp.atom sub s d x = .ok (t, y)) (h2 : Sp.count s y.i = .ok (m, n, j)) : Sp.part sub s d x = .ok (⟨{ t.lab with min := m, max := n }, t.kids⟩, ⟨j, y.t⟩) := by unfold Sp.part; rw [h]; simp only [h2]
theorem count_1 {s : ByteArray} {i : Nat} (h : Sp.isAt s i 42 = true) : Sp.count s i = .ok (0, -1, i + 1) := by unfold Sp.count; rw [if_pos h]
theorem count_2 {s : ByteArray} {i : Nat} (h1 : Sp.isAt s i 42 = false) (h : Sp.isAt s i 43 = true) : Sp.count s i = .ok (1, -1, i + 1) := by unfold Sp.count; rw [if_neg (by rw [h1]; simp), if_pos h]
theorem count_3 {s : ByteArray} {i : Nat} (h1 : Sp.isAt s i 42 = false) (h2 : Sp.isAt s i 43 = false) (h : Sp.isAt s i 63 = true) : Sp.count s i = .ok (0, 1, i + 1) := by unfold Sp.count; rw [if_neg (by rw [h1]; simp), if_neg (by rw [h2]; simp), if_pos h]
theorem count_4 {s : ByteArray} {i : Nat} (h1 : Sp.isAt s i 42 = false) (h2 : Sp.isAt s i 43 = false) (h3 : Sp.isAt s i 63 = false) (h : Sp.isAt s i 123 = true) : Sp.count s i = Sp.bounds s (i + 1) := by unfold Sp.count; rw [if_neg (by rw [h1]; simp), if_neg (by rw [h2]; simp), if_neg (by rw [h3]; simp), if_pos h]
theorem count_5 {s : ByteArray} {i : Nat} (h1 : Sp.isAt s i 42 = false) (h2 : Sp.isAt s i 43 = false) (h3 : Sp.isAt s i 63 = false) (h : Sp.isAt s i 123 = false) : Sp.count s i = .ok (-1, 0, i) := by unfold Sp.count; rw [if_neg (by rw [h1]; simp), if_neg (by rw [h2]; simp), if_neg (by rw [h3]; simp), if_neg (by rw [h]; simp)]

set_option maxHeartbeats 1000000 in
theorem pPart_no (r : Nat) (s : ByteArray) (i0 : Nat) (e0 a0 : Int) (d : Nat) (t : Int) (w : World) (h : PdAt w r s ⟨i0, e0, a0, d, t⟩) (hi : i0 ≤ s.size) (hs : s.size ≤ 200) (hd : d ≤ 8) (ht0 : 0 ≤ t) (ht9 : t ≤ 9) (k : Nat) (hsub : d < 8 → PChoiceC k) (hk : (d : Int) = 8 - (k : Int)) (e1 a1 : Int) (hat : Sp.atom (Sp.choice s k) s d ⟨i0, t⟩ = .error (e1, a1)) :
    Calls Tryd.prog 53 #[.pointer (some ⟨r, 0, none⟩)] w (PNodeOut r s ⟨i0, e0, a0, d, t⟩ w (Sp.part (Sp.choice s k) s d ⟨i0, t⟩)) := by
  have hr := lt_of_heap h
  have hh : Hid (PdAt w r s ⟨i0, e0, a0, d, t⟩) := h
  have HK : Hid ((d : Int) = 8 - (k : Int)) := hk
  have HSUB : Hid (d < 8 → PChoiceC k) := hsub
  clear h hk hsub
  have HAT : Hid (Sp.atom (Sp.choice s k) s d ⟨i0, t⟩ = .error (e1, a1)) := hat
  clear hat
  go_enter Tryd.func53, Tryd.ntmps53
  go_wp2_with fail
  refine (pAtom_any r s i0 e0 a0 d t _ (by exact hh.out) hi hs hd ht0 ht9 k HSUB.out HK.out).mono ?_
  rw [HAT.out]
  rintro e w1 ⟨hu1, i', t', rfl, hf1⟩
  go_wp2_with fail
  go_ret2
  exact PNodeOut.mk_error _ _ i' t' (part_1 HAT.out) hu1 rfl hf1

set_option maxHeartbeats 1000000 in
theorem pPart_star (r : Nat) (s : ByteArray) (i0 : Nat) (e0 a0 : Int) (d : Nat) (t : Int) (w : World) (h : PdAt w r s ⟨i0, e0, a0, d, t⟩) (hi : i0 ≤ s.size) (hs : s.size ≤ 200) (hd : d ≤ 8) (ht0 : 0 ≤ t) (ht9 : t ≤ 9) (k : Nat) (hsub : d < 8 → PChoiceC k) (hk : (d : Int) = 8 - (k : Int)) (tr : Tr) (y : Sp.At) (hat : Sp.atom (Sp.choice s k) s d ⟨i0, t⟩ = .ok (tr, y)) (b1 : Sp.isAt s y.i 42 = true) :
    Calls Tryd.prog 53 #[.pointer (some ⟨r, 0, none⟩)] w (PNodeOut r s ⟨i0, e0, a0, d, t⟩ w (Sp.part (Sp.choice s k) s d ⟨i0, t⟩)) := by
  have hr := lt_of_heap h
  have hh : Hid (PdAt w r s ⟨i0, e0, a0, d, t⟩) := h
  have HK : Hid ((d : Int) = 8 - (k : Int)) := hk
  have HSUB : Hid (d < 8 → PChoiceC k) := hsub
  clear h hk hsub
  have B1 : Hid (Sp.isAt s y.i 42 = true) := b1
  clear b1
  obtain ⟨hy1, hy2, hy3, hy4, hmin, hmax⟩ := Sp.atom_good (Sp.choice_good s k) hat ht0 ht9
  have HAT : Hid (Sp.atom (Sp.choice s k) s d ⟨i0, t⟩ = .ok (tr, y)) := hat
  have HMN : Hid (tr.lab.min = -1 ∧ tr.lab.max = 0) := ⟨hmin, hmax⟩
  clear hat hmin hmax
  go_enter Tryd.func53, Tryd.ntmps53
  go_wp2_with fail
  refine (pAtom_any r s i0 e0 a0 d t _ (by exact hh.out) hi hs hd ht0 ht9 k HSUB.out HK.out).mono ?_
  rw [HAT.out]
  rintro e w1 ⟨hu1, q, rfl, hn1, hf1⟩
  have HU1 : Hid (Upd [r] w w1) := hu1
  have HN1 : Hid (NodesAt w1 (fun k => w.heap.size ≤ k) [q] [tr]) := hn1
  have HF1 : Hid (PdAt w1 r s ⟨y.i, e0, a0, d, y.t⟩) := hf1
  clear hu1 hn1 hf1
  unfold ptr
  go_wp2_with fail
  refine (pTake_yes r s ⟨y.i, e0, a0, d, y.t⟩ _ _ (by exact HF1.out) hs B1.out).mono ?_
  rintro e w2 ⟨rfl, hu2, hf2⟩
  have HU2 : Hid (Upd [r] w w2) := HU1.out.trans hu2
  have HN2 : Hid (NodesAt w2 (fun k => w.heap.size ≤ k) [q] [tr]) := HN1.out.upd hu2 (fun k hk => by simp at hk; omega)
  have HF2 : Hid (PdAt w2 r s ⟨y.i + 1, e0, a0, d, y.t⟩) := hf2
  clear hu2 hf2 HU1 HN1 HF1
  have hsz := nodePsz HN2.out
  have hws := HU2.out.size
  go_wp2_with fail
  refine (tTurns_any q (psz tr) 0 (-1) _ (by exact hsz) (psz_nn tr) (psz_le tr) (by omega) (by omega) (by omega) (by omega)).mono ?_
  rintro e w3 ⟨p, l, rfl, hp, hu3, ht3, ho3, hl3⟩
  go_wp2_with fail
  go_ret2
  exact PNodeOut.mk_ok _ _ p (part_3 HAT.out (count_1 B1.out)) (HU2.out.shrink hu3 (by simp)) rfl (NodesAt.turn HMN.out.1 (by omega) ht3 ho3 (fun g hg => by have := hl3 g hg; omega) (by omega) (HN2.out.upd hu3 (by simp))) (HF2.out.upd hu3 (by simp))

set_option maxHeartbeats 1000000 in
theorem pPart_plus (r : Nat) (s : ByteArray) (i0 : Nat) (e0 a0 : Int) (d : Nat) (t : Int) (w : World) (h : PdAt w r s ⟨i0, e0, a0, d, t⟩) (hi : i0 ≤ s.size) (hs : s.size ≤ 200) (hd : d ≤ 8) (ht0 : 0 ≤ t) (ht9 : t ≤ 9) (k : Nat) (hsub : d < 8 → PChoiceC k) (hk : (d : Int) = 8 - (k : Int)) (tr : Tr) (y : Sp.At) (hat : Sp.atom (Sp.choice s k) s d ⟨i0, t⟩ = .ok (tr, y)) (b1 : Sp.isAt s y.i 42 = false) (b2 : Sp.isAt s y.i 43 = true) :
    Calls Tryd.prog 53 #[.pointer (some ⟨r, 0, none⟩)] w (PNodeOut r s ⟨i0, e0, a0, d, t⟩ w (Sp.part (Sp.choice s k) s d ⟨i0, t⟩)) := by
  have hr := lt_of_heap h
  have hh : Hid (PdAt w r s ⟨i0, e0, a0, d, t⟩) := h
  have HK : Hid ((d : Int) = 8 - (k : Int)) := hk
  have HSUB : Hid (d < 8 → PChoiceC k) := hsub
  clear h hk hsub
  have B1 : Hid (Sp.isAt s y.i 42 = false) := b1
  clear b1
  have B2 : Hid (Sp.isAt s y.i 43 = true) := b2
  clear b2
  obtain ⟨hy1, hy2, hy3, hy4, hmin, hmax⟩ := Sp.atom_good (Sp.choice_good s k) hat ht0 ht9
  have HAT : Hid (Sp.atom (Sp.choice s k) s d ⟨i0, t⟩ = .ok (tr, y)) := hat
  have HMN : Hid (tr.lab.min = -1 ∧ tr.lab.max = 0) := ⟨hmin, hmax⟩
  clear hat hmin hmax
  go_enter Tryd.func53, Tryd.ntmps53
  go_wp2_with fail
  refine (pAtom_any r s i0 e0 a0 d t _ (by exact hh.out) hi hs hd ht0 ht9 k HSUB.out HK.out).mono ?_
  rw [HAT.out]
  rintro e w1 ⟨hu1, q, rfl, hn1, hf1⟩
  have HU1 : Hid (Upd [r] w w1) := hu1
  have HN1 : Hid (NodesAt w1 (fun k => w.heap.size ≤ k) [q] [tr]) := hn1
  have HF1 : Hid (PdAt w1 r s ⟨y.i, e0, a0, d, y.t⟩) := hf1
  clear hu1 hn1 hf1
  unfold ptr
  go_wp2_with fail
  refine (pTake_no r s ⟨y.i, e0, a0, d, y.t⟩ _ _ (by exact HF1.out) (by exact hy2) hs B1.out).mono ?_
  rintro e w2 ⟨rfl, hu2, hf2⟩
  have HU2 : Hid (Upd [r] w w2) := HU1.out.trans hu2
  have HN2 : Hid (NodesAt w2 (fun k => w.heap.size ≤ k) [q] [tr]) := HN1.out.upd hu2 (fun k hk => by simp at hk; omega)
  have HF2 : Hid (PdAt w2 r s ⟨y.i, e0, a0, d, y.t⟩) := hf2
  clear hu2 hf2 HU1 HN1 HF1
  go_wp2_with fail
  refine (pTake_yes r s ⟨y.i, e0, a0, d, y.t⟩ _ _ (by exact HF2.out) hs B2.out).mono ?_
  rintro e w3 ⟨rfl, hu3, hf3⟩
  have HU3 : Hid (Upd [r] w w3) := HU2.out.trans hu3
  have HN3 : Hid (NodesAt w3 (fun k => w.heap.size ≤ k) [q] [tr]) := HN2.out.upd hu3 (fun k hk => by simp at hk; omega)
  have HF3 : Hid (PdAt w3 r s ⟨y.i + 1, e0, a0, d, y.t⟩) := hf3
  clear hu3 hf3 HU2 HN2 HF2
  have hsz := nodePsz HN3.out
  have hws := HU3.out.size
  go_wp2_with fail
  refine (tTurns_any q (psz tr) 1 (-1) _ (by exact hsz) (psz_nn tr) (psz_le tr) (by omega) (by omega) (by omega) (by omega)).mono ?_
  rintro e w4 ⟨p, l, rfl, hp, hu4, ht4, ho4, hl4⟩
  go_wp2_with fail
  go_ret2
  exact PNodeOut.mk_ok _ _ p (part_3 HAT.out (count_2 B1.out B2.out)) (HU3.out.shrink hu4 (by simp)) rfl (NodesAt.turn HMN.out.1 (by omega) ht4 ho4 (fun g hg => by have := hl4 g hg; omega) (by omega) (HN3.out.upd hu4 (by simp))) (HF3.out.upd hu4 (by simp))

set_option maxHeartbeats 1000000 in
theorem pPart_opt (r : Nat) (s : ByteArray) (i0 : Nat) (e0 a0 : Int) (d : Nat) (t : Int) (w : World) (h : PdAt w r s ⟨i0, e0, a0, d, t⟩) (hi : i0 ≤ s.size) (hs : s.size ≤ 200) (hd : d ≤ 8) (ht0 : 0 ≤ t) (ht9 : t ≤ 9) (k : Nat) (hsub : d < 8 → PChoiceC k) (hk : (d : Int) = 8 - (k : Int)) (tr : Tr) (y : Sp.At) (hat : Sp.atom (Sp.choice s k) s d ⟨i0, t⟩ = .ok (tr, y)) (b1 : Sp.isAt s y.i 42 = false) (b2 : Sp.isAt s y.i 43 = false) (b3 : Sp.isAt s y.i 63 = true) :
    Calls Tryd.prog 53 #[.pointer (some ⟨r, 0, none⟩)] w (PNodeOut r s ⟨i0, e0, a0, d, t⟩ w (Sp.part (Sp.choice s k) s d ⟨i0, t⟩)) := by
  have hr := lt_of_heap h
  have hh : Hid (PdAt w r s ⟨i0, e0, a0, d, t⟩) := h
  have HK : Hid ((d : Int) = 8 - (k : Int)) := hk
  have HSUB : Hid (d < 8 → PChoiceC k) := hsub
  clear h hk hsub
  have B1 : Hid (Sp.isAt s y.i 42 = false) := b1
  clear b1
  have B2 : Hid (Sp.isAt s y.i 43 = false) := b2
  clear b2
  have B3 : Hid (Sp.isAt s y.i 63 = true) := b3
  clear b3
  obtain ⟨hy1, hy2, hy3, hy4, hmin, hmax⟩ := Sp.atom_good (Sp.choice_good s k) hat ht0 ht9
  have HAT : Hid (Sp.atom (Sp.choice s k) s d ⟨i0, t⟩ = .ok (tr, y)) := hat
  have HMN : Hid (tr.lab.min = -1 ∧ tr.lab.max = 0) := ⟨hmin, hmax⟩
  clear hat hmin hmax
  go_enter Tryd.func53, Tryd.ntmps53
  go_wp2_with fail
  refine (pAtom_any r s i0 e0 a0 d t _ (by exact hh.out) hi hs hd ht0 ht9 k HSUB.out HK.out).mono ?_
  rw [HAT.out]
  rintro e w1 ⟨hu1, q, rfl, hn1, hf1⟩
  have HU1 : Hid (Upd [r] w w1) := hu1
  have HN1 : Hid (NodesAt w1 (fun k => w.heap.size ≤ k) [q] [tr]) := hn1
  have HF1 : Hid (PdAt w1 r s ⟨y.i, e0, a0, d, y.t⟩) := hf1
  clear hu1 hn1 hf1
  unfold ptr
  go_wp2_with fail
  refine (pTake_no r s ⟨y.i, e0, a0, d, y.t⟩ _ _ (by exact HF1.out) (by exact hy2) hs B1.out).mono ?_
  rintro e w2 ⟨rfl, hu2, hf2⟩
  have HU2 : Hid (Upd [r] w w2) := HU1.out.trans hu2
  have HN2 : Hid (NodesAt w2 (fun k => w.heap.size ≤ k) [q] [tr]) := HN1.out.upd hu2 (fun k hk => by simp at hk; omega)
  have HF2 : Hid (PdAt w2 r s ⟨y.i, e0, a0, d, y.t⟩) := hf2
  clear hu2 hf2 HU1 HN1 HF1
  go_wp2_with fail
  refine (pTake_no r s ⟨y.i, e0, a0, d, y.t⟩ _ _ (by exact HF2.out) (by exact hy2) hs B2.out).mono ?_
  rintro e w3 ⟨rfl, hu3, hf3⟩
  have HU3 : Hid (Upd [r] w w3) := HU2.out.trans hu3
  have HN3 : Hid (NodesAt w3 (fun k => w.heap.size ≤ k) [q] [tr]) := HN2.out.upd hu3 (fun k hk => by simp at hk; omega)
  have HF3 : Hid (PdAt w3 r s ⟨y.i, e0, a0, d, y.t⟩) := hf3
  clear hu3 hf3 HU2 HN2 HF2
  go_wp2_with fail
  refine (pTake_yes r s ⟨y.i, e0, a0, d, y.t⟩ _ _ (by exact HF3.out) hs B3.out).mono ?_
  rintro e w4 ⟨rfl, hu4, hf4⟩
  have HU4 : Hid (Upd [r] w w4) := HU3.out.trans hu4
  have HN4 : Hid (NodesAt w4 (fun k => w.heap.size ≤ k) [q] [tr]) := HN3.out.upd hu4 (fun k hk => by simp at hk; omega)
  have HF4 : Hid (PdAt w4 r s ⟨y.i + 1, e0, a0, d, y.t⟩) := hf4
  clear hu4 hf4 HU3 HN3 HF3
  have hsz := nodePsz HN4.out
  have hws := HU4.out.size
  go_wp2_with fail
  refine (tTurns_any q (psz tr) 0 1 _ (by exact hsz) (psz_nn tr) (psz_le tr) (by omega) (by omega) (by omega) (by omega)).mono ?_
  rintro e w5 ⟨p, l, rfl, hp, hu5, ht5, ho5, hl5⟩
  go_wp2_with fail
  go_ret2
  exact PNodeOut.mk_ok _ _ p (part_3 HAT.out (count_3 B1.out B2.out B3.out)) (HU4.out.shrink hu5 (by simp)) rfl (NodesAt.turn HMN.out.1 (by omega) ht5 ho5 (fun g hg => by have := hl5 g hg; omega) (by omega) (HN4.out.upd hu5 (by simp))) (HF4.out.upd hu5 (by simp))

set_option maxHeartbeats 1000000 in
theorem pPart_brace (r : Nat) (s : ByteArray) (i0 : Nat) (e0 a0 : Int) (d : Nat) (t : Int) (w : World) (h : PdAt w r s ⟨i0, e0, a0, d, t⟩) (hi : i0 ≤ s.size) (hs : s.size ≤ 200) (hd : d ≤ 8) (ht0 : 0 ≤ t) (ht9 : t ≤ 9) (k : Nat) (hsub : d < 8 → PChoiceC k) (hk : (d : Int) = 8 - (k : Int)) (tr : Tr) (y : Sp.At) (hat : Sp.atom (Sp.choice s k) s d ⟨i0, t⟩ = .ok (tr, y)) (b1 : Sp.isAt s y.i 42 = false) (b2 : Sp.isAt s y.i 43 = false) (b3 : Sp.isAt s y.i 63 = false) (b4 : Sp.isAt s y.i 123 = true) :
    Calls Tryd.prog 53 #[.pointer (some ⟨r, 0, none⟩)] w (PNodeOut r s ⟨i0, e0, a0, d, t⟩ w (Sp.part (Sp.choice s k) s d ⟨i0, t⟩)) := by
  have hr := lt_of_heap h
  have hh : Hid (PdAt w r s ⟨i0, e0, a0, d, t⟩) := h
  have HK : Hid ((d : Int) = 8 - (k : Int)) := hk
  have HSUB : Hid (d < 8 → PChoiceC k) := hsub
  clear h hk hsub
  have hlt := Sp.isAt_lt b4
  have B1 : Hid (Sp.isAt s y.i 42 = false) := b1
  have hlt0 := True.intro
  clear b1 hlt0
  have B2 : Hid (Sp.isAt s y.i 43 = false) := b2
  have hlt1 := True.intro
  clear b2 hlt1
  have B3 : Hid (Sp.isAt s y.i 63 = false) := b3
  have hlt2 := True.intro
  clear b3 hlt2
  have B4 : Hid (Sp.isAt s y.i 123 = true) := b4
  have hlt3 := True.intro
  clear b4 hlt3
  obtain ⟨hy1, hy2, hy3, hy4, hmin, hmax⟩ := Sp.atom_good (Sp.choice_good s k) hat ht0 ht9
  have HAT : Hid (Sp.atom (Sp.choice s k) s d ⟨i0, t⟩ = .ok (tr, y)) := hat
  have HMN : Hid (tr.lab.min = -1 ∧ tr.lab.max = 0) := ⟨hmin, hmax⟩
  clear hat hmin hmax
  go_enter Tryd.func53, Tryd.ntmps53
  go_wp2_with fail
  refine (pAtom_any r s i0 e0 a0 d t _ (by exact hh.out) hi hs hd ht0 ht9 k HSUB.out HK.out).mono ?_
  rw [HAT.out]
  rintro e w1 ⟨hu1, q, rfl, hn1, hf1⟩
  have HU1 : Hid (Upd [r] w w1) := hu1
  have HN1 : Hid (NodesAt w1 (fun k => w.heap.size ≤ k) [q] [tr]) := hn1
  have HF1 : Hid (PdAt w1 r s ⟨y.i, e0, a0, d, y.t⟩) := hf1
  clear hu1 hn1 hf1
  unfold ptr
  go_wp2_with fail
  refine (pTake_no r s ⟨y.i, e0, a0, d, y.t⟩ _ _ (by exact HF1.out) (by exact hy2) hs B1.out).mono ?_
  rintro e w2 ⟨rfl, hu2, hf2⟩
  have HU2 : Hid (Upd [r] w w2) := HU1.out.trans hu2
  have HN2 : Hid (NodesAt w2 (fun k => w.heap.size ≤ k) [q] [tr]) := HN1.out.upd hu2 (fun k hk => by simp at hk; omega)
  have HF2 : Hid (PdAt w2 r s ⟨y.i, e0, a0, d, y.t⟩) := hf2
  clear hu2 hf2 HU1 HN1 HF1
  go_wp2_with fail
  refine (pTake_no r s ⟨y.i, e0, a0, d, y.t⟩ _ _ (by exact HF2.out) (by exact hy2) hs B2.out).mono ?_
  rintro e w3 ⟨rfl, hu3, hf3⟩
  have HU3 : Hid (Upd [r] w w3) := HU2.out.trans hu3
  have HN3 : Hid (NodesAt w3 (fun k => w.heap.size ≤ k) [q] [tr]) := HN2.out.upd hu3 (fun k hk => by simp at hk; omega)
  have HF3 : Hid (PdAt w3 r s ⟨y.i, e0, a0, d, y.t⟩) := hf3
  clear hu3 hf3 HU2 HN2 HF2
  go_wp2_with fail
  refine (pTake_no r s ⟨y.i, e0, a0, d, y.t⟩ _ _ (by exact HF3.out) (by exact hy2) hs B3.out).mono ?_
  rintro e w4 ⟨rfl, hu4, hf4⟩
  have HU4 : Hid (Upd [r] w w4) := HU3.out.trans hu4
  have HN4 : Hid (NodesAt w4 (fun k => w.heap.size ≤ k) [q] [tr]) := HN3.out.upd hu4 (fun k hk => by simp at hk; omega)
  have HF4 : Hid (PdAt w4 r s ⟨y.i, e0, a0, d, y.t⟩) := hf4
  clear hu4 hf4 HU3 HN3 HF3
  go_wp2_with fail
  refine (pTake_yes r s ⟨y.i, e0, a0, d, y.t⟩ _ _ (by exact HF4.out) hs B4.out).mono ?_
  rintro e w5 ⟨rfl, hu5, hf5⟩
  have HU5 : Hid (Upd [r] w w5) := HU4.out.trans hu5
  have HN5 : Hid (NodesAt w5 (fun k => w.heap.size ≤ k) [q] [tr]) := HN4.out.upd hu5 (fun k hk => by simp at hk; omega)
  have HF5 : Hid (PdAt w5 r s ⟨y.i + 1, e0, a0, d, y.t⟩) := hf5
  clear hu5 hf5 HU4 HN4 HF4
  go_wp2_with fail
  refine (pBounds_any r s ⟨y.i + 1, e0, a0, d, y.t⟩ _ (by exact HF5.out) (by exact hlt) hs).mono ?_
  rintro e w6 ⟨hu6, hq6⟩
  have HU6 : Hid (Upd [r] w w6) := HU5.out.trans hu6
  have HN6 : Hid (NodesAt w6 (fun k => w.heap.size ≤ k) [q] [tr]) := HN5.out.upd hu6 (fun k hk => by simp at hk; omega)
  clear hu6 HU5 HN5 HF5
  have HC : Hid (Sp.count s y.i = Sp.bounds s (y.i + 1)) := count_4 B1.out B2.out B3.out B4.out
  revert hq6
  cases hb : Sp.bounds s (y.i + 1) with
  | error p =>
    obtain ⟨e1, a1⟩ := p
    rintro ⟨m, n, i', rfl, hf6⟩
    have HR : Hid (Sp.part (Sp.choice s k) s d ⟨i0, t⟩ = .error (e1, a1)) := part_2 HAT.out (HC.out.trans hb)
    clear hb
    go_wp2_with fail
    go_ret2
    exact PNodeOut.mk_error _ _ i' y.t HR.out HU6.out rfl hf6
  | ok p =>
    obtain ⟨m, n, j⟩ := p
    rintro ⟨rfl, hf6⟩
    have HR : Hid (Sp.part (Sp.choice s k) s d ⟨i0, t⟩ = .ok (⟨{ tr.lab with min := m, max := n }, tr.kids⟩, ⟨j, y.t⟩)) := part_3 HAT.out (HC.out.trans hb)
    obtain ⟨m0, m1, n0, n1⟩ := bounds_bd0 hb
    have HF6 : Hid (PdAt w6 r s ⟨j, e0, a0, d, y.t⟩) := hf6
    clear hb hf6
    have hsz := nodePsz HN6.out
    have hws := HU6.out.size
    go_wp2_with fail
    refine (tTurns_any q (psz tr) m n _ (by exact hsz) (psz_nn tr) (psz_le tr) (by omega) (by omega) (by omega) (by omega)).mono ?_
    rintro e w7 ⟨p, l, rfl, hp, hu7, ht7, ho7, hl7⟩
    go_wp2_with fail
    go_ret2
    exact PNodeOut.mk_ok _ _ p HR.out (HU6.out.shrink hu7 (by simp)) rfl (NodesAt.turn HMN.out.1 (by omega) ht7 ho7 (fun g hg => by have := hl7 g hg; omega) (by omega) (HN6.out.upd hu7 (by simp))) (HF6.out.upd hu7 (by simp))

set_option maxHeartbeats 1000000 in
theorem pPart_bare (r : Nat) (s : ByteArray) (i0 : Nat) (e0 a0 : Int) (d : Nat) (t : Int) (w : World) (h : PdAt w r s ⟨i0, e0, a0, d, t⟩) (hi : i0 ≤ s.size) (hs : s.size ≤ 200) (hd : d ≤ 8) (ht0 : 0 ≤ t) (ht9 : t ≤ 9) (k : Nat) (hsub : d < 8 → PChoiceC k) (hk : (d : Int) = 8 - (k : Int)) (tr : Tr) (y : Sp.At) (hat : Sp.atom (Sp.choice s k) s d ⟨i0, t⟩ = .ok (tr, y)) (b1 : Sp.isAt s y.i 42 = false) (b2 : Sp.isAt s y.i 43 = false) (b3 : Sp.isAt s y.i 63 = false) (b4 : Sp.isAt s y.i 123 = false) :
    Calls Tryd.prog 53 #[.pointer (some ⟨r, 0, none⟩)] w (PNodeOut r s ⟨i0, e0, a0, d, t⟩ w (Sp.part (Sp.choice s k) s d ⟨i0, t⟩)) := by
  have hr := lt_of_heap h
  have hh : Hid (PdAt w r s ⟨i0, e0, a0, d, t⟩) := h
  have HK : Hid ((d : Int) = 8 - (k : Int)) := hk
  have HSUB : Hid (d < 8 → PChoiceC k) := hsub
  clear h hk hsub
  have B1 : Hid (Sp.isAt s y.i 42 = false) := b1
  clear b1
  have B2 : Hid (Sp.isAt s y.i 43 = false) := b2
  clear b2
  have B3 : Hid (Sp.isAt s y.i 63 = false) := b3
  clear b3
  have B4 : Hid (Sp.isAt s y.i 123 = false) := b4
  clear b4
  obtain ⟨hy1, hy2, hy3, hy4, hmin, hmax⟩ := Sp.atom_good (Sp.choice_good s k) hat ht0 ht9
  have HAT : Hid (Sp.atom (Sp.choice s k) s d ⟨i0, t⟩ = .ok (tr, y)) := hat
  have HMN : Hid (tr.lab.min = -1 ∧ tr.lab.max = 0) := ⟨hmin, hmax⟩
  clear hat hmin hmax
  go_enter Tryd.func53, Tryd.ntmps53
  go_wp2_with fail
  refine (pAtom_any r s i0 e0 a0 d t _ (by exact hh.out) hi hs hd ht0 ht9 k HSUB.out HK.out).mono ?_
  rw [HAT.out]
  rintro e w1 ⟨hu1, q, rfl, hn1, hf1⟩
  have HU1 : Hid (Upd [r] w w1) := hu1
  have HN1 : Hid (NodesAt w1 (fun k => w.heap.size ≤ k) [q] [tr]) := hn1
  have HF1 : Hid (PdAt w1 r s ⟨y.i, e0, a0, d, y.t⟩) := hf1
  clear hu1 hn1 hf1
  unfold ptr
  go_wp2_with fail
  refine (pTake_no r s ⟨y.i, e0, a0, d, y.t⟩ _ _ (by exact HF1.out) (by exact hy2) hs B1.out).mono ?_
  rintro e w2 ⟨rfl, hu2, hf2⟩
  have HU2 : Hid (Upd [r] w w2) := HU1.out.trans hu2
  have HN2 : Hid (NodesAt w2 (fun k => w.heap.size ≤ k) [q] [tr]) := HN1.out.upd hu2 (fun k hk => by simp at hk; omega)
  have HF2 : Hid (PdAt w2 r s ⟨y.i, e0, a0, d, y.t⟩) := hf2
  clear hu2 hf2 HU1 HN1 HF1
  go_wp2_with fail
  refine (pTake_no r s ⟨y.i, e0, a0, d, y.t⟩ _ _ (by exact HF2.out) (by exact hy2) hs B2.out).mono ?_
  rintro e w3 ⟨rfl, hu3, hf3⟩
  have HU3 : Hid (Upd [r] w w3) := HU2.out.trans hu3
  have HN3 : Hid (NodesAt w3 (fun k => w.heap.size ≤ k) [q] [tr]) := HN2.out.upd hu3 (fun k hk => by simp at hk; omega)
  have HF3 : Hid (PdAt w3 r s ⟨y.i, e0, a0, d, y.t⟩) := hf3
  clear hu3 hf3 HU2 HN2 HF2
  go_wp2_with fail
  refine (pTake_no r s ⟨y.i, e0, a0, d, y.t⟩ _ _ (by exact HF3.out) (by exact hy2) hs B3.out).mono ?_
  rintro e w4 ⟨rfl, hu4, hf4⟩
  have HU4 : Hid (Upd [r] w w4) := HU3.out.trans hu4
  have HN4 : Hid (NodesAt w4 (fun k => w.heap.size ≤ k) [q] [tr]) := HN3.out.upd hu4 (fun k hk => by simp at hk; omega)
  have HF4 : Hid (PdAt w4 r s ⟨y.i, e0, a0, d, y.t⟩) := hf4
  clear hu4 hf4 HU3 HN3 HF3
  go_wp2_with fail
  refine (pTake_no r s ⟨y.i, e0, a0, d, y.t⟩ _ _ (by exact HF4.out) (by exact hy2) hs B4.out).mono ?_
  rintro e w5 ⟨rfl, hu5, hf5⟩
  have HU5 : Hid (Upd [r] w w5) := HU4.out.trans hu5
  have HN5 : Hid (NodesAt w5 (fun k => w.heap.size ≤ k) [q] [tr]) := HN4.out.upd hu5 (fun k hk => by simp at hk; omega)
  have HF5 : Hid (PdAt w5 r s ⟨y.i, e0, a0, d, y.t⟩) := hf5
  clear hu5 hf5 HU4 HN4 HF4
  have HT : Hid (Sp.part (Sp.choice s k) s d ⟨i0, t⟩ = .ok (tr, ⟨y.i, y.t⟩)) := by
    show _ = _; rw [part_3 HAT.out (count_5 B1.out B2.out B3.out B4.out)]
    have e : (⟨{ tr.lab with min := -1, max := 0 }, tr.kids⟩ : Tr) = tr := by
      have h1 := HMN.out.1
      have h2 := HMN.out.2
      obtain ⟨⟨_, _, _, _, _, _, mn, mx⟩, ks⟩ := tr
      simp only at h1 h2; subst h1 h2; rfl
    rw [e]
  go_wp2_with fail
  go_ret2
  exact PNodeOut.mk_ok _ _ q HT.out HU5.out rfl HN5.out HF5.out

theorem pPart_any (r : Nat) (s : ByteArray) (i0 : Nat) (e0 a0 : Int) (d : Nat) (t : Int) (w : World) (h : PdAt w r s ⟨i0, e0, a0, d, t⟩) (hi : i0 ≤ s.size) (hs : s.size ≤ 200) (hd : d ≤ 8) (ht0 : 0 ≤ t) (ht9 : t ≤ 9) (k : Nat) (hsub : d < 8 → PChoiceC k) (hk : (d : Int) = 8 - (k : Int)) :
    Calls Tryd.prog 53 #[.pointer (some ⟨r, 0, none⟩)] w (PNodeOut r s ⟨i0, e0, a0, d, t⟩ w (Sp.part (Sp.choice s k) s d ⟨i0, t⟩)) := by
  cases hat : Sp.atom (Sp.choice s k) s d ⟨i0, t⟩ with
  | error p => obtain ⟨e1, a1⟩ := p; exact pPart_no r s i0 e0 a0 d t w h hi hs hd ht0 ht9 k hsub hk e1 a1 hat
  | ok p =>
    obtain ⟨tr, y⟩ := p
    cases b1 : Sp.isAt s y.i 42 with
    | true => exact pPart_star r s i0 e0 a0 d t w h hi hs hd ht0 ht9 k hsub hk tr y hat b1
    | false => cases b2 : Sp.isAt s y.i 43 with
      | true => exact pPart_plus r s i0 e0 a0 d t w h hi hs hd ht0 ht9 k hsub hk tr y hat b1 b2
      | false => cases b3 : Sp.isAt s y.i 63 with
        | true => exact pPart_opt r s i0 e0 a0 d t w h hi hs hd ht0 ht9 k hsub hk tr y hat b1 b2 b3
        | false => cases b4 : Sp.isAt s y.i 123 with
          | true => exact pPart_brace r s i0 e0 a0 d t w h hi hs hd ht0 ht9 k hsub hk tr y hat b1 b2 b3 b4
          | false => exact pPart_bare r s i0 e0 a0 d t w h hi hs hd ht0 ht9 k hsub hk tr y hat b1 b2 b3 b4
end Go.Proofs.YtcpfpnjkfahjcaaDoor
