import Derived.Test.YtcpfpnjkfahjcaaDoorH04
import Derived.Test.YtcpfpnjkfahjcaaDoorH02
import Derived.OwnWalk
set_option linter.unusedSimpArgs false
set_option linter.unusedVariables false
namespace Go.Proofs.YtcpfpnjkfahjcaaDoor
open Go.RowKit

theorem ret3 {a b c a' b' c' : Value} (h : a = a') (k : b = b') (l : c = c') : Ending.returned (.tuple #[a, b, c]) = .returned (.tuple #[a', b', c']) := by rw [h, k, l]

/-- What a call of the program's that reads two numbers leaves. -/
def PTwoOut (K : IntKind) (r : Nat) (s : ByteArray) (x : RS) (w : World) (res : Sp.Res (Int × Int × Nat)) (k : Ending) (w' : World) : Prop :=
  Upd [r] w w' ∧ match res with
  | .ok (m, n, j) => k = .returned (.tuple #[.int K m, .int K n, .bool true]) ∧ PdAt w' r s { x with i := j }
  | .error (e, a) => ∃ m n i', k = .returned (.tuple #[.int K m, .int K n, .bool false]) ∧ PdAt w' r s { x with i := i', e := e, a := a }
theorem PTwoOut.mk_ok {K : IntKind} {r : Nat} {s : ByteArray} {x : RS} {w w' : World} {res : Sp.Res (Int × Int × Nat)} {k : Ending} (m n : Int) (j : Nat) (h : res = .ok (m, n, j)) (u : Upd [r] w w') (hk : k = .returned (.tuple #[.int K m, .int K n, .bool true])) (hr : PdAt w' r s { x with i := j }) : PTwoOut K r s x w res k w' := by
  subst h; exact ⟨u, hk, hr⟩
theorem PTwoOut.mk_error {K : IntKind} {r : Nat} {s : ByteArray} {x : RS} {w w' : World} {res : Sp.Res (Int × Int × Nat)} {k : Ending} (e a : Int) (m n : Int) (i' : Nat) (h : res = .error (e, a)) (u : Upd [r] w w') (hk : k = .returned (.tuple #[.int K m, .int K n, .bool false])) (hr : PdAt w' r s { x with i := i', e := e, a := a }) : PTwoOut K r s x w res k w' := by
  subst h; exact ⟨u, m, n, i', hk, hr⟩

theorem bounds_1 {s : ByteArray} {i : Nat} {f : Sp.Fault} (h : Sp.number 0 s i = .error f) : Sp.bounds s i = .error f := by unfold Sp.bounds; rw [h]
theorem bounds_2 {s : ByteArray} {i j : Nat} {m : Int} {f : Sp.Fault} (h : Sp.number 0 s i = .ok (m, j)) (h1 : Sp.isAt s j 44 = true) (h2 : upperR m s (j + 1) = .error f) : Sp.bounds s i = .error f := by
  unfold Sp.bounds; unfold upperR at h2; rw [h]; simp only [h1]
  cases hd : Sp.digitAt s (j + 1) with
  | true => rw [hd, if_pos rfl] at h2; simp [h2]
  | false => rw [hd, if_neg (by simp)] at h2; cases h2
theorem bounds_3 {s : ByteArray} {i j k : Nat} {m n : Int} (h : Sp.number 0 s i = .ok (m, j)) (h1 : Sp.isAt s j 44 = true) (h2 : upperR m s (j + 1) = .ok (n, k)) : Sp.bounds s i = if Sp.isAt s k 125 then .ok (m, n, k + 1) else .error (3, k) := by
  unfold Sp.bounds; unfold upperR at h2; rw [h]; simp only [h1]
  cases hd : Sp.digitAt s (j + 1) with
  | true => rw [hd, if_pos rfl] at h2; simp only [h2, Sp.need]; cases Sp.isAt s k 125 <;> simp
  | false => rw [hd, if_neg (by simp)] at h2; cases h2; simp only [Sp.need]; cases Sp.isAt s (j + 1) 125 <;> simp
theorem bounds_4 {s : ByteArray} {i j : Nat} {m : Int} (h : Sp.number 0 s i = .ok (m, j)) (h1 : Sp.isAt s j 44 = false) : Sp.bounds s i = if Sp.isAt s j 125 then .ok (m, m, j + 1) else .error (3, j) := by
  unfold Sp.bounds; rw [h]; simp only [h1, Sp.need]; cases Sp.isAt s j 125 <;> simp
theorem number_bd0 {m : Int} {s : ByteArray} {i j : Nat} {v : Int} (h : Sp.number m s i = .ok (v, j)) : 0 ≤ v ∧ v ≤ 20 := by
  unfold Sp.number at h
  split at h
  · rename_i hd
    split at h
    · cases h
    · rename_i q
      have e := Except.ok.inj h
      have : (Sp.digits s i).1 = v := by rw [e]
      refine ⟨?_, by omega⟩
      rw [← this]; have hb := digitAt_bd hd
      unfold Sp.digits; split
      · rename_i q2; have := digitAt_bd q2.2; simp only; omega
      · simp only; omega
  · cases h
theorem upperR_in {m : Int} {s : ByteArray} {i j : Nat} {v : Int} (h : upperR m s i = .ok (v, j)) (hi : i ≤ s.size) : j ≤ s.size := by
  unfold upperR at h; split at h
  · exact (Sp.number_in h).2
  · cases h; exact hi

set_option maxHeartbeats 800000 in
theorem pBounds_any (r : Nat) (s : ByteArray) (x : RS) (w : World) (h : PdAt w r s x) (hi : x.i ≤ s.size) (hs : s.size ≤ 200) :
    Calls Tryd.prog 66 #[.pointer (some ⟨r, 0, none⟩)] w (PTwoOut .i64 r s x w (Sp.bounds s x.i)) := by
  have hh : Hid (PdAt w r s x) := h
  clear h
  cases hn : Sp.number 0 s x.i with
  | error p =>
    obtain ⟨e1, a1⟩ := p
    have HN : Hid (Sp.number 0 s x.i = .error (e1, a1)) := hn
    have HR : Hid (Sp.bounds s x.i = .error (e1, a1)) := bounds_1 hn
    clear hn
    go_enter Tryd.func66, Tryd.ntmps66
    go_wp2_with fail
    refine (pNumber_any r s x 0 _ (by exact hh.out) hi hs (by omega) (by omega)).mono ?_
    rw [HN.out]
    rintro e w1 ⟨hu, v, i', rfl, hf⟩
    go_wp2_with fail
    go_ret3
    exact PTwoOut.mk_error _ _ 0 0 i' HR.out hu rfl hf
  | ok p =>
    obtain ⟨m, j⟩ := p
    have HN : Hid (Sp.number 0 s x.i = .ok (m, j)) := hn
    have hj : j ≤ s.size := (Sp.number_in hn).2
    obtain ⟨hm0, hm1⟩ := number_bd0 hn
    clear hn
    cases h1 : Sp.isAt s j 44 with
    | false =>
      have H1 : Hid (Sp.isAt s j 44 = false) := h1
      have HR : Hid (Sp.bounds s x.i = if Sp.isAt s j 125 then .ok (m, m, j + 1) else .error (3, j)) := bounds_4 HN.out h1
      clear h1
      go_enter Tryd.func66, Tryd.ntmps66
      go_wp2_with fail
      refine (pNumber_any r s x 0 _ (by exact hh.out) hi hs (by omega) (by omega)).mono ?_
      rw [HN.out]
      rintro e w1 ⟨hu, rfl, hf⟩
      have HU1 : Hid (Upd [r] w w1) := hu
      have HF1 : Hid (PdAt w1 r s ⟨j, x.e, x.a, x.d, x.t⟩) := hf
      clear hu hf
      go_wp2_with fail
      refine (pTake_any r s ⟨j, x.e, x.a, x.d, x.t⟩ _ _ (by exact HF1.out) hj hs).mono ?_
      rintro e w2 ⟨rfl, hu2, hf2⟩
      rw [show Sp.isAt s _ 44 = false from H1.out] at hf2 ⊢
      have HU2 : Hid (Upd [r] w w2) := HU1.out.trans hu2
      have HF2 : Hid (PdAt w2 r s ⟨j, x.e, x.a, x.d, x.t⟩) := hf2
      clear hu2 hf2
      go_wp2_with fail
      refine (pNeed_any r s ⟨j, x.e, x.a, x.d, x.t⟩ _ _ (by exact HF2.out) hj hs).mono ?_
      rintro e w3 ⟨rfl, hu3, hf3⟩
      cases h2 : Sp.isAt s j 125 with
      | true =>
        rw [show Sp.isAt s _ 125 = true from h2] at hf3
        have HR' : Hid (Sp.bounds s x.i = .ok (m, m, j + 1)) := by show _ = _; rw [HR.out, h2]; rfl
        clear h2
        go_wp2_with fail
        go_ret3
        exact PTwoOut.mk_ok m m (j + 1) HR'.out (HU2.out.trans hu3) rfl hf3
      | false =>
        rw [show Sp.isAt s _ 125 = false from h2] at hf3
        have HR' : Hid (Sp.bounds s x.i = .error (3, j)) := by show _ = _; rw [HR.out, h2]; rfl
        clear h2
        go_wp2_with fail
        go_ret3
        exact PTwoOut.mk_error _ _ m m j HR'.out (HU2.out.trans hu3) rfl hf3
    | true =>
      have H1 : Hid (Sp.isAt s j 44 = true) := h1
      have hj1 : j + 1 ≤ s.size := Sp.isAt_lt h1
      clear h1
      cases h2 : upperR m s (j + 1) with
      | error p =>
        obtain ⟨e1, a1⟩ := p
        have H2 : Hid (upperR m s (j + 1) = .error (e1, a1)) := h2
        have HR : Hid (Sp.bounds s x.i = .error (e1, a1)) := bounds_2 HN.out H1.out h2
        clear h2
        go_enter Tryd.func66, Tryd.ntmps66
        go_wp2_with fail
        refine (pNumber_any r s x 0 _ (by exact hh.out) hi hs (by omega) (by omega)).mono ?_
        rw [HN.out]
        rintro e w1 ⟨hu, rfl, hf⟩
        have HU1 : Hid (Upd [r] w w1) := hu
        have HF1 : Hid (PdAt w1 r s ⟨j, x.e, x.a, x.d, x.t⟩) := hf
        clear hu hf
        go_wp2_with fail
        refine (pTake_any r s ⟨j, x.e, x.a, x.d, x.t⟩ _ _ (by exact HF1.out) hj hs).mono ?_
        rintro e w2 ⟨rfl, hu2, hf2⟩
        rw [show Sp.isAt s _ 44 = true from H1.out] at hf2 ⊢
        have HU2 : Hid (Upd [r] w w2) := HU1.out.trans hu2
        have HF2 : Hid (PdAt w2 r s ⟨j + 1, x.e, x.a, x.d, x.t⟩) := hf2
        clear hu2 hf2
        go_wp2_with fail
        refine (pUpper_any r s ⟨j + 1, x.e, x.a, x.d, x.t⟩ m _ (by exact HF2.out) hj1 hs hm0 hm1).mono ?_
        rw [show upperR m s _ = _ from H2.out]
        rintro e w3 ⟨hu3, v, i', rfl, hf3⟩
        go_wp2_with fail
        go_ret3
        exact PTwoOut.mk_error _ _ 0 0 i' HR.out (HU2.out.trans hu3) rfl hf3
      | ok p =>
        obtain ⟨n, k⟩ := p
        have H2 : Hid (upperR m s (j + 1) = .ok (n, k)) := h2
        have HR : Hid (Sp.bounds s x.i = if Sp.isAt s k 125 then .ok (m, n, k + 1) else .error (3, k)) := bounds_3 HN.out H1.out h2
        have hk : k ≤ s.size := upperR_in h2 hj1
        clear h2
        go_enter Tryd.func66, Tryd.ntmps66
        go_wp2_with fail
        refine (pNumber_any r s x 0 _ (by exact hh.out) hi hs (by omega) (by omega)).mono ?_
        rw [HN.out]
        rintro e w1 ⟨hu, rfl, hf⟩
        have HU1 : Hid (Upd [r] w w1) := hu
        have HF1 : Hid (PdAt w1 r s ⟨j, x.e, x.a, x.d, x.t⟩) := hf
        clear hu hf
        go_wp2_with fail
        refine (pTake_any r s ⟨j, x.e, x.a, x.d, x.t⟩ _ _ (by exact HF1.out) hj hs).mono ?_
        rintro e w2 ⟨rfl, hu2, hf2⟩
        rw [show Sp.isAt s _ 44 = true from H1.out] at hf2 ⊢
        have HU2 : Hid (Upd [r] w w2) := HU1.out.trans hu2
        have HF2 : Hid (PdAt w2 r s ⟨j + 1, x.e, x.a, x.d, x.t⟩) := hf2
        clear hu2 hf2
        go_wp2_with fail
        refine (pUpper_any r s ⟨j + 1, x.e, x.a, x.d, x.t⟩ m _ (by exact HF2.out) hj1 hs hm0 hm1).mono ?_
        rw [show upperR m s _ = _ from H2.out]
        rintro e w3 ⟨hu3, rfl, hf3⟩
        have HU3 : Hid (Upd [r] w w3) := HU2.out.trans hu3
        have HF3 : Hid (PdAt w3 r s ⟨k, x.e, x.a, x.d, x.t⟩) := hf3
        clear hu3 hf3
        go_wp2_with fail
        refine (pNeed_any r s ⟨k, x.e, x.a, x.d, x.t⟩ _ _ (by exact HF3.out) hk hs).mono ?_
        rintro e w4 ⟨rfl, hu4, hf4⟩
        cases h3 : Sp.isAt s k 125 with
        | true =>
          rw [show Sp.isAt s _ 125 = true from h3] at hf4
          have HR' : Hid (Sp.bounds s x.i = .ok (m, n, k + 1)) := by show _ = _; rw [HR.out, h3]; rfl
          clear h3
          go_wp2_with fail
          go_ret3
          exact PTwoOut.mk_ok m n (k + 1) HR'.out (HU3.out.trans hu4) rfl hf4
        | false =>
          rw [show Sp.isAt s _ 125 = false from h3] at hf4
          have HR' : Hid (Sp.bounds s x.i = .error (3, k)) := by show _ = _; rw [HR.out, h3]; rfl
          clear h3
          go_wp2_with fail
          go_ret3
          exact PTwoOut.mk_error _ _ m n k HR'.out (HU3.out.trans hu4) rfl hf4
end Go.Proofs.YtcpfpnjkfahjcaaDoor

set_option linter.unusedSimpArgs false
set_option linter.unusedVariables false
namespace Go.Proofs.YtcpfpnjkfahjcaaDoor
open Go.RowKit

/-- One digit of two. -/
def hexD (s : ByteArray) (i : Nat) : Sp.Res (Int × Nat) := if i < s.size ∧ 0 ≤ Sp.hex (Sp.byteAt s i) then .ok (Sp.hex (Sp.byteAt s i), i + 1) else .error (3, i)
theorem hexD_ok {s : ByteArray} {i : Nat} {v : Int} (hi : i < s.size) (hv : Sp.hex (Sp.byteAt s i) = v) (h0 : 0 ≤ v) : hexD s i = .ok (v, i + 1) := by
  subst hv; exact if_pos ⟨hi, h0⟩
theorem hexD_no {s : ByteArray} {i : Nat} (h : ¬ (i < s.size ∧ 0 ≤ Sp.hex (Sp.byteAt s i))) : hexD s i = .error (3, i) := if_neg h
theorem hexD_in {s : ByteArray} {i j : Nat} {v : Int} (h : hexD s i = .ok (v, j)) : j = i + 1 ∧ i < s.size ∧ 0 ≤ v ∧ v ≤ 15 := by
  unfold hexD at h; split at h
  · rename_i q; cases h; exact ⟨rfl, q.1, q.2, hex_hi _⟩
  · cases h
theorem hexPair_d1 {s : ByteArray} {i : Nat} {f : Sp.Fault} (h : hexD s i = .error f) : Sp.hexPair s i = .error f := by
  unfold hexD at h; unfold Sp.hexPair; split at h
  · cases h
  · rename_i q; rw [if_neg q, ← h]
theorem hexPair_d2 {s : ByteArray} {i j : Nat} {a : Int} {f : Sp.Fault} (h : hexD s i = .ok (a, j)) (k : hexD s j = .error f) : Sp.hexPair s i = .error f := by
  unfold hexD at h k; unfold Sp.hexPair; split at h
  · rename_i q; cases h; rw [if_pos q]; split at k
    · cases k
    · rename_i q2; rw [if_neg q2, ← k]
  · cases h
theorem hexPair_d3 {s : ByteArray} {i j k : Nat} {a b : Int} (h : hexD s i = .ok (a, j)) (g : hexD s j = .ok (b, k)) : Sp.hexPair s i = .ok (16 * a + b, k) := by
  unfold hexD at h g; unfold Sp.hexPair; split at h
  · rename_i q; cases h; rw [if_pos q]; split at g
    · rename_i q2; cases g; rw [if_pos q2]
    · cases g
  · cases h

set_option maxHeartbeats 800000 in
theorem pHexDigit_any (r : Nat) (s : ByteArray) (x : RS) (w : World) (h : PdAt w r s x) (hi : x.i ≤ s.size) (hs : s.size ≤ 200) :
    Calls Tryd.prog 99 #[.pointer (some ⟨r, 0, none⟩)] w (PNumOut .u8 r s x w (hexD s x.i)) := by
  obtain ⟨c0, c1, c2, c3, c4, c5, fz⟩ := h.facts
  have hh : Hid (PdAt w r s x) := h
  clear h
  by_cases hlt : x.i < s.size
  · have HB : Hid (Sp.byteAt s x.i = (s[x.i].toNat : Int)) := Sp.byteAt_in s x.i hlt
    go_enter Tryd.func99, Tryd.ntmps99
    go_wp2_with fail
    refine (pAtEnd_no r s x _ (by exact hh.out) hlt).mono ?_
    rintro e w1 ⟨rfl, n, rfl⟩
    go_wp2_with fail
    go_quiet (fail)
    go_wp2_with (go_at_call 27; refine (pRefuse_any r s ⟨x.i + 1, x.e, x.a, x.d, x.t⟩ _ _ _ (by exact (hh.out.drewN n).set1 (x.i + 1))).mono ?_; rintro e w5 ⟨rfl, hu5, hf5⟩)
    all_goals go_ret2
    all_goals first
      | exact PNumOut.mk_ok _ (x.i + 1) (by exact hexD_ok hlt (by rw [HB.out]; unfold Sp.hex; (repeat' split) <;> omega) (by omega)) (by (repeat (first | exact Upd.refl _ _ | refine Upd.drewN ?_ | refine Upd.drew ?_ | refine Upd.setCell ?_ (by simp) _ | refine Upd.alloc ?_ _))) rfl ((hh.out.drewN n).set1 (x.i + 1))
      | exact PNumOut.mk_error _ _ 0 (x.i + 1) (hexD_no (fun q => by have q2 := q.2; rw [HB.out] at q2; unfold Sp.hex at q2; (repeat' split at q2) <;> omega)) (by refine Upd.trans ?_ hu5; (repeat (first | exact Upd.refl _ _ | refine Upd.drewN ?_ | refine Upd.drew ?_ | refine Upd.setCell ?_ (by simp) _ | refine Upd.alloc ?_ _))) rfl (by simpa using hf5)
  · have HE : Hid (x.i = s.size) := by show _ = _; omega
    go_enter Tryd.func99, Tryd.ntmps99
    go_wp2_with fail
    refine (pAtEnd_yes r s x _ (by exact hh.out) HE.out).mono ?_
    rintro e w1 ⟨rfl, n, rfl⟩
    go_wp2_with fail
    refine (pRefuse_any r s x _ _ _ (by exact hh.out.drewN n)).mono ?_
    rintro e w2 ⟨rfl, hu, hf⟩
    go_wp2_with fail
    go_ret2
    exact PNumOut.mk_error _ _ 0 x.i (hexD_no (fun q => hlt q.1)) ((drewN_upd _ _ _).trans hu) rfl hf

theorem or_all : ((List.range 16).all fun a => (List.range 16).all fun b => bits BinOp.or IntKind.u8 ((a : Int) * 16) (b : Int) == 16 * (a : Int) + b) = true := by kernel_rfl
theorem or_hex {a b : Int} (h0 : 0 ≤ a) (h1 : a ≤ 15) (k0 : 0 ≤ b) (k1 : b ≤ 15) : bits BinOp.or IntKind.u8 (a * 16) b = 16 * a + b := by
  obtain ⟨m, rfl⟩ := Int.eq_ofNat_of_zero_le h0
  obtain ⟨n, rfl⟩ := Int.eq_ofNat_of_zero_le k0
  have h := or_all
  rw [List.all_eq_true] at h
  have h2 := h m (List.mem_range.2 (by omega))
  rw [List.all_eq_true] at h2
  have h3 := h2 n (List.mem_range.2 (by omega))
  simpa using h3

set_option maxHeartbeats 800000 in
theorem pHexPair_any (r : Nat) (s : ByteArray) (x : RS) (w : World) (h : PdAt w r s x) (hi : x.i ≤ s.size) (hs : s.size ≤ 200) :
    Calls Tryd.prog 93 #[.pointer (some ⟨r, 0, none⟩)] w (PNumOut .u8 r s x w (Sp.hexPair s x.i)) := by
  have hh : Hid (PdAt w r s x) := h
  clear h
  cases h1 : hexD s x.i with
  | error p =>
    obtain ⟨e1, a1⟩ := p
    have H1 : Hid (hexD s x.i = .error (e1, a1)) := h1
    clear h1
    go_enter Tryd.func93, Tryd.ntmps93
    go_wp2_with fail
    refine (pHexDigit_any r s x _ (by exact hh.out) hi hs).mono ?_
    rw [H1.out]
    rintro e w1 ⟨hu, v, i', rfl, hf⟩
    go_wp2_with fail
    go_ret2
    exact PNumOut.mk_error _ _ 0 i' (hexPair_d1 H1.out) hu rfl hf
  | ok p =>
    obtain ⟨a, j⟩ := p
    have H1 : Hid (hexD s x.i = .ok (a, j)) := h1
    obtain ⟨hj, hi1, ha0, ha1⟩ := hexD_in h1
    clear h1
    go_enter Tryd.func93, Tryd.ntmps93
    go_wp2_with fail
    refine (pHexDigit_any r s x _ (by exact hh.out) hi hs).mono ?_
    rw [H1.out]
    rintro e w1 ⟨hu, rfl, hf⟩
    have HU1 : Hid (Upd [r] w w1) := hu
    have HF1 : Hid (PdAt w1 r s ⟨j, x.e, x.a, x.d, x.t⟩) := hf
    clear hu hf
    cases h2 : hexD s j with
    | error p =>
      obtain ⟨e1, a1⟩ := p
      have H2 : Hid (hexD s j = .error (e1, a1)) := h2
      clear h2
      go_wp2_with fail
      refine (pHexDigit_any r s ⟨j, x.e, x.a, x.d, x.t⟩ _ (by exact HF1.out) (by show j ≤ _; omega) hs).mono ?_
      rw [show hexD s _ = _ from H2.out]
      rintro e w2 ⟨hu, v, i', rfl, hf⟩
      go_wp2_with fail
      go_ret2
      exact PNumOut.mk_error _ _ _ i' (hexPair_d2 H1.out H2.out) (HU1.out.trans hu) rfl hf
    | ok p =>
      obtain ⟨b, k⟩ := p
      have H2 : Hid (hexD s j = .ok (b, k)) := h2
      obtain ⟨hk, hj1, hb0, hb1⟩ := hexD_in h2
      clear h2
      go_wp2_with fail
      refine (pHexDigit_any r s ⟨j, x.e, x.a, x.d, x.t⟩ _ (by exact HF1.out) (by show j ≤ _; omega) hs).mono ?_
      rw [show hexD s _ = _ from H2.out]
      rintro e w2 ⟨hu, rfl, hf⟩
      go_wp2_with fail
      go_ret2
      exact PNumOut.mk_ok (16 * a + b) k (hexPair_d3 H1.out H2.out) (HU1.out.trans hu) (tup2 (int_eq (or_hex ha0 ha1 hb0 hb1)) rfl) hf
end Go.Proofs.YtcpfpnjkfahjcaaDoor
