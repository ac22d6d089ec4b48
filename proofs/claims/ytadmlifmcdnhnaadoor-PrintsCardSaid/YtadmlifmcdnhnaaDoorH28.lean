import Derived.Test.YtadmlifmcdnhnaaDoorH27
set_option linter.unusedSimpArgs false
set_option linter.unusedVariables false
namespace Go.Proofs.YtadmlifmcdnhnaaDoor
open Go.RowKit

theorem byteBut_esc {l : Bool} {s : ByteArray} {i : Nat} (h : Sp.isAt s i 92 = true) : Sp.byteBut l s i = Sp.escape s (i + 1) := by unfold Sp.byteBut; rw [if_pos h]
theorem byteBut_out {l : Bool} {s : ByteArray} {i : Nat} (h : ¬ i < s.size) : Sp.byteBut l s i = .error (3, i) := by
  unfold Sp.byteBut; rw [if_neg (by rw [isAt_out h]; simp), if_neg (fun q => h q.1)]
theorem byteBut_sign {l : Bool} {s : ByteArray} {i : Nat} (h : Sp.isAt s i 92 = false) (hq : isSign l (Sp.byteAt s i) = true) : Sp.byteBut l s i = .error (3, i) := by
  unfold Sp.byteBut; rw [if_neg (by rw [h]; simp), if_neg (fun q => by have q2 := q.2; unfold isSign at hq; rw [hq] at q2; cases q2)]
theorem byteBut_byte {l : Bool} {s : ByteArray} {i : Nat} (hi : i < s.size) (h : Sp.isAt s i 92 = false) (hq : isSign l (Sp.byteAt s i) = false) : Sp.byteBut l s i = .ok (Sp.byteAt s i, i + 1) := by
  unfold Sp.byteBut; rw [if_neg (by rw [h]; simp), if_pos ⟨hi, hq⟩]

set_option maxHeartbeats 800000 in
theorem pByteBut_any (l : Bool) (r : Nat) (s : ByteArray) (x : RS) (w : World) (h : PdAt w r s x) (hi : x.i ≤ s.size) (hs : s.size ≤ 200) :
    Calls Tryd.prog 75 #[.pointer (some ⟨r, 0, none⟩), .string (sgL l)] w (PNumOut .u8 r s x w (Sp.byteBut l s x.i)) := by
  have hh : Hid (PdAt w r s x) := h
  clear h
  obtain ⟨sg, HS⟩ : ∃ sg, Hid (sg = sgL l) := ⟨sgL l, (rfl : sgL l = sgL l)⟩
  rw [← HS.out]
  cases hb : Sp.isAt s x.i 92 with
  | true =>
    have HB : Hid (Sp.isAt s x.i 92 = true) := hb
    have hlt := Sp.isAt_lt hb
    have HR : Hid (Sp.byteBut l s x.i = Sp.escape s (x.i + 1)) := byteBut_esc hb
    clear hb
    go_enter Tryd.func75, Tryd.ntmps75
    go_wp2_with fail
    refine (pTake_yes r s x _ _ (by exact hh.out) hs HB.out).mono ?_
    rintro e w1 ⟨rfl, hu, hf⟩
    have HU1 : Hid (Upd [r] w w1) := hu
    clear hu
    go_wp2_with fail
    refine (pEscaped_any r s ⟨x.i + 1, x.e, x.a, x.d, x.t⟩ _ (by exact hf) (by exact hlt) hs).mono ?_
    rintro e w2 ⟨hu2, hq⟩
    have HU2 : Hid (Upd [r] w w2) := HU1.out.trans hu2
    clear hu2 hf
    revert hq
    cases hr : Sp.escape s (x.i + 1) with
    | ok p =>
      obtain ⟨v, j⟩ := p
      rintro ⟨rfl, hf⟩
      have HR' : Hid (Sp.byteBut l s x.i = .ok (v, j)) := HR.out.trans hr
      clear hr
      go_wp2
      go_ret2
      exact PNumOut.mk_ok v j HR'.out HU2.out rfl hf
    | error p =>
      obtain ⟨e1, a1⟩ := p
      rintro ⟨v, i', rfl, hf⟩
      have HR' : Hid (Sp.byteBut l s x.i = .error (e1, a1)) := HR.out.trans hr
      clear hr
      go_wp2
      go_ret2
      exact PNumOut.mk_error e1 a1 v i' HR'.out HU2.out rfl hf
  | false =>
    have HB : Hid (Sp.isAt s x.i 92 = false) := hb
    clear hb
    by_cases hlt : x.i < s.size
    · have HV : Hid (Sp.byteAt s x.i = (s[x.i].toNat : Int)) := Sp.byteAt_in s x.i hlt
      cases hl : isSign l (Sp.byteAt s x.i) with
      | true =>
        have hx : 0 ≤ ixOf l (s[x.i].toNat : Int) := by
          have := ix_is (l := l) (c := (s[x.i].toNat : Int)) (by omega) (by have := s[x.i].toNat_lt; omega)
          rw [← HV.out, hl, HV.out] at this; simp at this; omega
        have HR : Hid (Sp.byteBut l s x.i = .error (3, x.i)) := byteBut_sign HB.out hl
        clear hl
        go_enter Tryd.func75, Tryd.ntmps75
        go_wp2_with fail
        refine (pTake_no r s x _ _ (by exact hh.out) hi hs HB.out).mono ?_
        rintro e w1 ⟨rfl, hu, hf⟩
        have HU1 : Hid (Upd [r] w w1) := hu
        have HF1 : Hid (PdAt w1 r s x) := hf
        obtain ⟨c0, c1, c2, c3, c4, c5, fz⟩ := HF1.out.facts
        clear hu hf
        go_wp2_with fail
        go_quiet (first | (go_at_call 26; exact Calls.quiet_of (pAtEnd_no r s x _ HF1.out hlt)) | (go_at_call 42; rw [HS.out]; exact Calls.quiet_of (ix_any l _ _)))
        go_wp2_with fail
        refine (pRefuse_any r s x _ _ _ (by exact HF1.out)).mono ?_
        rintro e w4 ⟨rfl, hu4, hf4⟩
        go_wp2_with fail
        go_ret2
        exact PNumOut.mk_error _ _ 0 x.i HR.out ((HU1.out.trans (drewN_upd _ _ _)).trans hu4) rfl hf4
      | false =>
        have hx : ¬ 0 ≤ ixOf l (s[x.i].toNat : Int) := by
          have := ix_is (l := l) (c := (s[x.i].toNat : Int)) (by omega) (by have := s[x.i].toNat_lt; omega)
          rw [← HV.out, hl, HV.out] at this; simp at this; omega
        have HR : Hid (Sp.byteBut l s x.i = .ok ((s[x.i].toNat : Int), x.i + 1)) := by show _ = _; rw [byteBut_byte hlt HB.out hl, HV.out]
        clear hl
        go_enter Tryd.func75, Tryd.ntmps75
        go_wp2_with fail
        refine (pTake_no r s x _ _ (by exact hh.out) hi hs HB.out).mono ?_
        rintro e w1 ⟨rfl, hu, hf⟩
        have HU1 : Hid (Upd [r] w w1) := hu
        have HF1 : Hid (PdAt w1 r s x) := hf
        obtain ⟨c0, c1, c2, c3, c4, c5, fz⟩ := HF1.out.facts
        clear hu hf
        go_wp2_with fail
        go_quiet (first | (go_at_call 26; exact Calls.quiet_of (pAtEnd_no r s x _ HF1.out hlt)) | (go_at_call 42; rw [HS.out]; exact Calls.quiet_of (ix_any l _ _)))
        go_wp2_with fail
        go_quiet (fail)
        go_wp2_with fail
        go_ret2
        exact PNumOut.mk_ok _ (x.i + 1) HR.out (by refine HU1.out.trans ?_; (repeat (first | exact Upd.refl _ _ | refine Upd.drewN ?_ | refine Upd.drew ?_ | refine Upd.setCell ?_ (by simp) _ | refine Upd.alloc ?_ _))) rfl (HF1.out.set1 (x.i + 1))
    · have HE : Hid (x.i = s.size) := by show _ = _; omega
      have HR : Hid (Sp.byteBut l s x.i = .error (3, x.i)) := byteBut_out hlt
      go_enter Tryd.func75, Tryd.ntmps75
      go_wp2_with fail
      refine (pTake_no r s x _ _ (by exact hh.out) hi hs HB.out).mono ?_
      rintro e w1 ⟨rfl, hu, hf⟩
      have HU1 : Hid (Upd [r] w w1) := hu
      have HF1 : Hid (PdAt w1 r s x) := hf
      obtain ⟨c0, c1, c2, c3, c4, c5, fz⟩ := HF1.out.facts
      clear hu hf
      go_wp2_with fail
      go_quiet ((go_at_call 26; exact Calls.quiet_of (pAtEnd_yes r s x _ HF1.out HE.out)))
      go_wp2_with fail
      refine (pRefuse_any r s x _ _ _ (by exact HF1.out)).mono ?_
      rintro e w4 ⟨rfl, hu4, hf4⟩
      go_wp2_with fail
      go_ret2
      exact PNumOut.mk_error _ _ 0 x.i HR.out ((HU1.out.trans (drewN_upd _ _ _)).trans hu4) rfl hf4

theorem pitem_1 {s : ByteArray} {i : Nat} {f : Sp.Fault} (h : Sp.byteBut true s i = .error f) : Sp.item s i = .error f := by unfold Sp.item; rw [h]
theorem pitem_2 {s : ByteArray} {i j : Nat} {a : Int} (h : Sp.byteBut true s i = .ok (a, j)) (h1 : Sp.isAt s j 45 = false) : Sp.item s i = .ok (a, a, j) := by unfold Sp.item; rw [h]; simp [h1]
theorem pitem_3 {s : ByteArray} {i j : Nat} {a : Int} {f : Sp.Fault} (h : Sp.byteBut true s i = .ok (a, j)) (h1 : Sp.isAt s j 45 = true) (h2 : Sp.byteBut true s (j + 1) = .error f) : Sp.item s i = .error f := by unfold Sp.item; rw [h]; simp [h1, h2]
theorem pitem_4 {s : ByteArray} {i j k : Nat} {a b : Int} (h : Sp.byteBut true s i = .ok (a, j)) (h1 : Sp.isAt s j 45 = true) (h2 : Sp.byteBut true s (j + 1) = .ok (b, k)) (h3 : b < a) : Sp.item s i = .error (3, (j + 1 : Nat)) := by unfold Sp.item; rw [h]; simp [h1, h2, h3]
theorem pitem_5 {s : ByteArray} {i j k : Nat} {a b : Int} (h : Sp.byteBut true s i = .ok (a, j)) (h1 : Sp.isAt s j 45 = true) (h2 : Sp.byteBut true s (j + 1) = .ok (b, k)) (h3 : ¬ b < a) : Sp.item s i = .ok (a, b, k) := by unfold Sp.item; rw [h]; simp [h1, h2, h3]

set_option maxHeartbeats 800000 in
theorem pItem_any (r : Nat) (s : ByteArray) (x : RS) (w : World) (h : PdAt w r s x) (hi : x.i ≤ s.size) (hs : s.size ≤ 200) :
    Calls Tryd.prog 83 #[.pointer (some ⟨r, 0, none⟩)] w (PTwoOut .u8 r s x w (Sp.item s x.i)) := by
  have hh : Hid (PdAt w r s x) := h
  clear h
  cases h1 : Sp.byteBut true s x.i with
  | error p =>
    obtain ⟨e1, a1⟩ := p
    have H1 : Hid (Sp.byteBut true s x.i = .error (e1, a1)) := h1
    have HR : Hid (Sp.item s x.i = .error (e1, a1)) := pitem_1 h1
    clear h1
    go_enter Tryd.func83, Tryd.ntmps83
    go_wp2_with fail
    refine (pByteBut_any true r s x _ (by exact hh.out) hi hs).mono ?_
    rw [H1.out]
    rintro e w1 ⟨hu, v, i', rfl, hf⟩
    go_wp2_with fail
    go_ret3
    exact PTwoOut.mk_error _ _ v v i' HR.out hu rfl hf
  | ok p =>
    obtain ⟨a, j⟩ := p
    have H1 : Hid (Sp.byteBut true s x.i = .ok (a, j)) := h1
    obtain ⟨_, hj⟩ := Sp.byteBut_in h1
    clear h1
    cases h2 : Sp.isAt s j 45 with
    | false =>
      have H2 : Hid (Sp.isAt s j 45 = false) := h2
      have HR : Hid (Sp.item s x.i = .ok (a, a, j)) := pitem_2 H1.out h2
      clear h2
      go_enter Tryd.func83, Tryd.ntmps83
      go_wp2_with fail
      refine (pByteBut_any true r s x _ (by exact hh.out) hi hs).mono ?_
      rw [H1.out]
      rintro e w1 ⟨hu, rfl, hf⟩
      have HU1 : Hid (Upd [r] w w1) := hu
      clear hu
      go_wp2_with fail
      refine (pTake_no r s ⟨j, x.e, x.a, x.d, x.t⟩ _ _ (by exact hf) hj hs H2.out).mono ?_
      rintro e w2 ⟨rfl, hu2, hf2⟩
      go_wp2_with fail
      go_ret3
      exact PTwoOut.mk_ok a a j HR.out (HU1.out.trans hu2) rfl hf2
    | true =>
      have H2 : Hid (Sp.isAt s j 45 = true) := h2
      have hj1 := Sp.isAt_lt h2
      clear h2
      cases h3 : Sp.byteBut true s (j + 1) with
      | error p =>
        obtain ⟨e1, a1⟩ := p
        have H3 : Hid (Sp.byteBut true s (j + 1) = .error (e1, a1)) := h3
        have HR : Hid (Sp.item s x.i = .error (e1, a1)) := pitem_3 H1.out H2.out h3
        clear h3
        go_enter Tryd.func83, Tryd.ntmps83
        go_wp2_with fail
        refine (pByteBut_any true r s x _ (by exact hh.out) hi hs).mono ?_
        rw [H1.out]
        rintro e w1 ⟨hu, rfl, hf⟩
        have HU1 : Hid (Upd [r] w w1) := hu
        clear hu
        go_wp2_with fail
        refine (pTake_yes r s ⟨j, x.e, x.a, x.d, x.t⟩ _ _ (by exact hf) hs H2.out).mono ?_
        rintro e w2 ⟨rfl, hu2, hf2⟩
        have HU2 : Hid (Upd [r] w w2) := HU1.out.trans hu2
        have HF2 : Hid (PdAt w2 r s ⟨j + 1, x.e, x.a, x.d, x.t⟩) := hf2
        obtain ⟨c0, c1, c2, c3, c4, c5, fz⟩ := HF2.out.facts
        clear hu2 hf hf2
        go_wp2_with fail
        refine (pByteBut_any true r s ⟨j + 1, x.e, x.a, x.d, x.t⟩ _ (by exact HF2.out) (by exact hj1) hs).mono ?_
        rw [show Sp.byteBut true s _ = _ from H3.out]
        rintro e w3 ⟨hu3, v, i', rfl, hf3⟩
        go_wp2_with fail
        go_ret3
        exact PTwoOut.mk_error _ _ a v i' HR.out (HU2.out.trans hu3) rfl hf3
      | ok p =>
        obtain ⟨b, k⟩ := p
        have H3 : Hid (Sp.byteBut true s (j + 1) = .ok (b, k)) := h3
        clear h3
        go_enter Tryd.func83, Tryd.ntmps83
        go_wp2_with fail
        refine (pByteBut_any true r s x _ (by exact hh.out) hi hs).mono ?_
        rw [H1.out]
        rintro e w1 ⟨hu, rfl, hf⟩
        have HU1 : Hid (Upd [r] w w1) := hu
        clear hu
        go_wp2_with fail
        refine (pTake_yes r s ⟨j, x.e, x.a, x.d, x.t⟩ _ _ (by exact hf) hs H2.out).mono ?_
        rintro e w2 ⟨rfl, hu2, hf2⟩
        have HU2 : Hid (Upd [r] w w2) := HU1.out.trans hu2
        have HF2 : Hid (PdAt w2 r s ⟨j + 1, x.e, x.a, x.d, x.t⟩) := hf2
        obtain ⟨c0, c1, c2, c3, c4, c5, fz⟩ := HF2.out.facts
        clear hu2 hf hf2
        go_wp2_with fail
        refine (pByteBut_any true r s ⟨j + 1, x.e, x.a, x.d, x.t⟩ _ (by exact HF2.out) (by exact hj1) hs).mono ?_
        rw [show Sp.byteBut true s _ = _ from H3.out]
        rintro e w3 ⟨hu3, rfl, hf3⟩
        have HU3 : Hid (Upd [r] w w3) := HU2.out.trans hu3
        have HF3 : Hid (PdAt w3 r s ⟨k, x.e, x.a, x.d, x.t⟩) := hf3
        clear hu3 hf3
        by_cases hlt : b < a
        · have HR : Hid (Sp.item s x.i = .error (3, (j + 1 : Nat))) := pitem_4 H1.out H2.out H3.out hlt
          go_wp2_with fail
          refine (pRefuse_any r s ⟨k, x.e, x.a, x.d, x.t⟩ _ _ _ (by exact HF3.out)).mono ?_
          rintro e w4 ⟨rfl, hu4, hf4⟩
          go_wp2_with fail
          go_ret3
          exact PTwoOut.mk_error _ _ a b k HR.out (HU3.out.trans hu4) rfl hf4
        · have HR : Hid (Sp.item s x.i = .ok (a, b, k)) := pitem_5 H1.out H2.out H3.out hlt
          go_wp2_with fail
          go_ret3
          exact PTwoOut.mk_ok a b k HR.out HU3.out rfl HF3.out
end Go.Proofs.YtadmlifmcdnhnaaDoor
