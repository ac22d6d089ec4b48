import Derived.Test.YtadmlifmcdnhnaaDoorH17
set_option linter.unusedSimpArgs false
set_option linter.unusedVariables false
namespace Go.Proofs.YtadmlifmcdnhnaaDoor
open Go.RowKit

theorem pTake_no (r : Nat) (s : ByteArray) (x : RS) (b : Int) (w : World) (h : PdAt w r s x) (hi : x.i ≤ s.size) (hs : s.size ≤ 200) (hb : Sp.isAt s x.i b = false) :
    Calls Tryd.prog 39 #[.pointer (some ⟨r, 0, none⟩), .int .u8 b] w fun e w' => e = .returned (.bool false) ∧ Upd [r] w w' ∧ PdAt w' r s x :=
  (pTake_any r s x b w h hi hs).mono fun e w' q => by obtain ⟨q1, q2, q3⟩ := q; rw [hb] at q1 q3; exact ⟨q1, q2, q3⟩
theorem pTake_yes (r : Nat) (s : ByteArray) (x : RS) (b : Int) (w : World) (h : PdAt w r s x) (hs : s.size ≤ 200) (hb : Sp.isAt s x.i b = true) :
    Calls Tryd.prog 39 #[.pointer (some ⟨r, 0, none⟩), .int .u8 b] w fun e w' => e = .returned (.bool true) ∧ Upd [r] w w' ∧ PdAt w' r s ⟨x.i + 1, x.e, x.a, x.d, x.t⟩ :=
  (pTake_any r s x b w h (Nat.le_of_lt (Sp.isAt_lt hb)) hs).mono fun e w' q => by obtain ⟨q1, q2, q3⟩ := q; rw [hb] at q1 q3; exact ⟨q1, q2, q3⟩

/-- The signs; those of lists. -/
def sgL : Bool → ByteArray
  | false => ⟨#[92, 40, 41, 91, 93, 123, 125, 42, 43, 63, 124, 46]⟩
  | true => ⟨#[92, 40, 41, 91, 93, 123, 125, 42, 43, 63, 124, 46, 45, 94]⟩
def ixOf (l : Bool) (c : Int) : Int := Lib.indexByte (sgL l).data.toList c.toNat.toUInt8
def isSign (l : Bool) (c : Int) : Bool := if l then Sp.listSign c else Sp.sign c
theorem ix_all (l : Bool) : ((List.range 256).all fun n => decide (ixOf l (n : Int) < 0) == !isSign l (n : Int)) = true := by cases l <;> kernel_rfl
theorem ix_is {l : Bool} {c : Int} (h0 : 0 ≤ c) (h1 : c ≤ 255) : decide (ixOf l c < 0) = !isSign l c := by
  obtain ⟨n, rfl⟩ := Int.eq_ofNat_of_zero_le h0
  have h := ix_all l
  rw [List.all_eq_true] at h
  simpa using h n (List.mem_range.2 (by omega))
theorem ix_any (l : Bool) (c : Int) (w : World) :
    Calls Tryd.prog 42 #[.string (sgL l), .int .u8 c] w fun e w' => e = .returned (.int .i64 (ixOf l c)) ∧ ∃ n, w' = w.drewN n :=
  (indexByte_any (sgL l) c w).mono fun e w' q => ⟨q.1, 0, by rw [q.2]; rfl⟩

set_option maxHeartbeats 800000 in
theorem pEscaped_n (r : Nat) (s : ByteArray) (x : RS) (w : World) (h : PdAt w r s x) (hi : x.i ≤ s.size) (hs : s.size ≤ 200) (hb : Sp.isAt s x.i 110 = true) :
    Calls Tryd.prog 86 #[.pointer (some ⟨r, 0, none⟩)] w (PNumOut .u8 r s x w (Sp.escape s x.i)) := by
  have hh : Hid (PdAt w r s x) := h
  have HB : Hid (Sp.isAt s x.i 110 = true) := hb
  have HR : Hid (Sp.escape s x.i = .ok (10, x.i + 1)) := by
    show _ = _; simp [Sp.isAt] at hb; unfold Sp.escape; rw [if_pos hb.1, if_pos hb.2]
  clear h hb
  go_enter Tryd.func86, Tryd.ntmps86
  go_wp2_with fail
  refine (pTake_yes r s x _ _ (by exact hh.out) hs HB.out).mono ?_
  rintro e w1 ⟨rfl, hu, hf⟩
  go_wp2_with fail
  go_ret2
  exact PNumOut.mk_ok 10 (x.i + 1) HR.out hu rfl hf

set_option maxHeartbeats 800000 in
theorem pEscaped_t (r : Nat) (s : ByteArray) (x : RS) (w : World) (h : PdAt w r s x) (hi : x.i ≤ s.size) (hs : s.size ≤ 200) (hb : Sp.isAt s x.i 116 = true) :
    Calls Tryd.prog 86 #[.pointer (some ⟨r, 0, none⟩)] w (PNumOut .u8 r s x w (Sp.escape s x.i)) := by
  have hh : Hid (PdAt w r s x) := h
  have HB : Hid (Sp.isAt s x.i 116 = true) := hb
  have H1 : Hid (Sp.isAt s x.i 110 = false) := by show _ = _; simp [Sp.isAt] at hb ⊢; intro _; omega
  have HR : Hid (Sp.escape s x.i = .ok (9, x.i + 1)) := by
    show _ = _; simp [Sp.isAt] at hb; unfold Sp.escape; rw [if_pos hb.1, if_neg (by omega), if_pos hb.2]
  clear h hb
  go_enter Tryd.func86, Tryd.ntmps86
  go_wp2_with fail
  refine (pTake_no r s x _ _ (by exact hh.out) hi hs H1.out).mono ?_
  rintro e w1 ⟨rfl, hu, hf⟩
  go_wp2_with fail
  refine (pTake_yes r s x _ _ (by exact hf) hs HB.out).mono ?_
  rintro e w2 ⟨rfl, hu2, hf2⟩
  go_wp2_with fail
  go_ret2
  exact PNumOut.mk_ok 9 (x.i + 1) HR.out (hu.trans hu2) rfl hf2

set_option maxHeartbeats 800000 in
theorem pEscaped_x (r : Nat) (s : ByteArray) (x : RS) (w : World) (h : PdAt w r s x) (hi : x.i ≤ s.size) (hs : s.size ≤ 200) (hb : Sp.isAt s x.i 120 = true) :
    Calls Tryd.prog 86 #[.pointer (some ⟨r, 0, none⟩)] w (PNumOut .u8 r s x w (Sp.escape s x.i)) := by
  have hh : Hid (PdAt w r s x) := h
  have HB : Hid (Sp.isAt s x.i 120 = true) := hb
  have hlt := Sp.isAt_lt hb
  have H1 : Hid (Sp.isAt s x.i 110 = false) := by show _ = _; simp [Sp.isAt] at hb ⊢; intro _; omega
  have H2 : Hid (Sp.isAt s x.i 116 = false) := by show _ = _; simp [Sp.isAt] at hb ⊢; intro _; omega
  have HR : Hid (Sp.escape s x.i = Sp.hexPair s (x.i + 1)) := by
    show _ = _; simp [Sp.isAt] at hb; unfold Sp.escape; rw [if_pos hb.1, if_neg (by omega), if_neg (by omega), if_pos hb.2]
  clear h hb
  go_enter Tryd.func86, Tryd.ntmps86
  go_wp2_with fail
  refine (pTake_no r s x _ _ (by exact hh.out) hi hs H1.out).mono ?_
  rintro e w1 ⟨rfl, hu, hf⟩
  have HU1 : Hid (Upd [r] w w1) := hu
  clear hu
  go_wp2_with fail
  refine (pTake_no r s x _ _ (by exact hf) hi hs H2.out).mono ?_
  rintro e w2 ⟨rfl, hu2, hf2⟩
  have HU2 : Hid (Upd [r] w w2) := HU1.out.trans hu2
  clear hu2
  go_wp2_with fail
  refine (pTake_yes r s x _ _ (by exact hf2) hs HB.out).mono ?_
  rintro e w3 ⟨rfl, hu3, hf3⟩
  have HU3 : Hid (Upd [r] w w3) := HU2.out.trans hu3
  clear hu3
  go_wp2_with fail
  refine (pHexPair_any r s ⟨x.i + 1, x.e, x.a, x.d, x.t⟩ _ (by exact hf3) (by exact hlt) hs).mono ?_
  rintro e w4 ⟨hu4, hq⟩
  have HU4 : Hid (Upd [r] w w4) := HU3.out.trans hu4
  clear hu4 hf hf2 hf3
  revert hq
  cases hr : Sp.hexPair s (x.i + 1) with
  | ok p =>
    obtain ⟨v, j⟩ := p
    rintro ⟨rfl, hf⟩
    have HR' : Hid (Sp.escape s x.i = .ok (v, j)) := HR.out.trans hr
    clear hr
    go_wp2
    go_ret2
    exact PNumOut.mk_ok v j HR'.out HU4.out rfl hf
  | error p =>
    obtain ⟨e1, a1⟩ := p
    rintro ⟨v, i', rfl, hf⟩
    have HR' : Hid (Sp.escape s x.i = .error (e1, a1)) := HR.out.trans hr
    clear hr
    go_wp2
    go_ret2
    exact PNumOut.mk_error e1 a1 v i' HR'.out HU4.out rfl hf

set_option maxHeartbeats 800000 in
theorem pEscaped_end (r : Nat) (s : ByteArray) (x : RS) (w : World) (h : PdAt w r s x) (hi : x.i ≤ s.size) (hs : s.size ≤ 200) (hb : ¬ x.i < s.size) :
    Calls Tryd.prog 86 #[.pointer (some ⟨r, 0, none⟩)] w (PNumOut .u8 r s x w (Sp.escape s x.i)) := by
  have hh : Hid (PdAt w r s x) := h
  have HB : Hid (x.i = s.size) := by show _ = _; omega
  have HR : Hid (Sp.escape s x.i = .error (3, x.i)) := by show _ = _; unfold Sp.escape; rw [if_neg hb]
  clear h
  go_enter Tryd.func86, Tryd.ntmps86
  go_wp2_with fail
  refine (pTake_no r s x _ _ (by exact hh.out) hi hs (isAt_out hb)).mono ?_
  rintro e w1 ⟨rfl, hu, hf⟩
  have HU1 : Hid (Upd [r] w w1) := hu
  clear hu
  go_wp2_with fail
  refine (pTake_no r s x _ _ (by exact hf) hi hs (isAt_out hb)).mono ?_
  rintro e w2 ⟨rfl, hu2, hf2⟩
  have HU2 : Hid (Upd [r] w w2) := HU1.out.trans hu2
  clear hu2
  go_wp2_with fail
  refine (pTake_no r s x _ _ (by exact hf2) hi hs (isAt_out hb)).mono ?_
  rintro e w3 ⟨rfl, hu3, hf3⟩
  have HU3 : Hid (Upd [r] w w3) := HU2.out.trans hu3
  have HF3 : Hid (PdAt w3 r s x) := hf3
  obtain ⟨c0, c1, c2, c3, c4, c5, fz⟩ := HF3.out.facts
  clear hu3 hf hf2 hf3
  go_wp2_with fail
  go_quiet ((go_at_call 26; exact Calls.quiet_of (pAtEnd_yes r s x _ HF3.out HB.out)))
  go_wp2_with fail
  refine (pRefuse_any r s x _ _ _ (by exact HF3.out)).mono ?_
  rintro e w4 ⟨rfl, hu4, hf4⟩
  go_wp2_with fail
  go_ret2
  exact PNumOut.mk_error _ _ 0 x.i HR.out ((HU3.out.trans (drewN_upd _ _ _)).trans hu4) rfl hf4

set_option maxHeartbeats 800000 in
theorem pEscaped_other (r : Nat) (s : ByteArray) (x : RS) (w : World) (h : PdAt w r s x) (hi : x.i < s.size) (hs : s.size ≤ 200) (h1 : Sp.isAt s x.i 110 = false) (h2 : Sp.isAt s x.i 116 = false) (h3 : Sp.isAt s x.i 120 = false) :
    Calls Tryd.prog 86 #[.pointer (some ⟨r, 0, none⟩)] w (PNumOut .u8 r s x w (Sp.escape s x.i)) := by
  have hh : Hid (PdAt w r s x) := h
  have H1 : Hid (Sp.isAt s x.i 110 = false) := h1
  have H2 : Hid (Sp.isAt s x.i 116 = false) := h2
  have H3 : Hid (Sp.isAt s x.i 120 = false) := h3
  have hi' := Nat.le_of_lt hi
  have HB : Hid (Sp.byteAt s x.i = (s[x.i].toNat : Int)) := Sp.byteAt_in s x.i hi
  have HR : Hid (Sp.escape s x.i = if Sp.listSign (Sp.byteAt s x.i) then .ok (Sp.byteAt s x.i, x.i + 1) else .error (3, x.i)) := by
    show _ = _; rw [isAt_ok hi] at h1 h2 h3; simp at h1 h2 h3; unfold Sp.escape; rw [if_pos hi, if_neg h1, if_neg h2, if_neg h3]
  clear h h1 h2 h3
  go_enter Tryd.func86, Tryd.ntmps86
  go_wp2_with fail
  refine (pTake_no r s x _ _ (by exact hh.out) hi' hs H1.out).mono ?_
  rintro e w1 ⟨rfl, hu, hf⟩
  have HU1 : Hid (Upd [r] w w1) := hu
  clear hu
  go_wp2_with fail
  refine (pTake_no r s x _ _ (by exact hf) hi' hs H2.out).mono ?_
  rintro e w2 ⟨rfl, hu2, hf2⟩
  have HU2 : Hid (Upd [r] w w2) := HU1.out.trans hu2
  clear hu2
  go_wp2_with fail
  refine (pTake_no r s x _ _ (by exact hf2) hi' hs H3.out).mono ?_
  rintro e w3 ⟨rfl, hu3, hf3⟩
  have HU3 : Hid (Upd [r] w w3) := HU2.out.trans hu3
  have HF3 : Hid (PdAt w3 r s x) := hf3
  obtain ⟨c0, c1, c2, c3, c4, c5, fz⟩ := HF3.out.facts
  clear hu3 hf hf2 hf3
  cases hl : Sp.listSign (Sp.byteAt s x.i) with
  | false =>
    have hx : ixOf true (s[x.i].toNat : Int) < 0 := by
      have := ix_is (l := true) (c := (s[x.i].toNat : Int)) (by omega) (by have := s[x.i].toNat_lt; omega)
      rw [← HB.out, show isSign true (Sp.byteAt s x.i) = false from hl, HB.out] at this; simpa using this
    have HR' : Hid (Sp.escape s x.i = .error (3, x.i)) := by show _ = _; rw [HR.out, hl]; rfl
    clear hl
    go_wp2_with fail
    go_quiet (first | (go_at_call 26; exact Calls.quiet_of (pAtEnd_no r s x _ HF3.out hi)) | (go_at_call 42; exact Calls.quiet_of (ix_any true _ _)))
    go_wp2_with fail
    refine (pRefuse_any r s x _ _ _ (by exact HF3.out)).mono ?_
    rintro e w4 ⟨rfl, hu4, hf4⟩
    go_wp2_with fail
    go_ret2
    exact PNumOut.mk_error _ _ 0 x.i HR'.out ((HU3.out.trans (drewN_upd _ _ _)).trans hu4) rfl hf4
  | true =>
    have hx : ¬ ixOf true (s[x.i].toNat : Int) < 0 := by
      have := ix_is (l := true) (c := (s[x.i].toNat : Int)) (by omega) (by have := s[x.i].toNat_lt; omega)
      rw [← HB.out, show isSign true (Sp.byteAt s x.i) = true from hl, HB.out] at this; simpa using this
    have HR' : Hid (Sp.escape s x.i = .ok ((s[x.i].toNat : Int), x.i + 1)) := by show _ = _; rw [HR.out, hl, HB.out]; rfl
    clear hl
    go_wp2_with fail
    go_quiet (first | (go_at_call 26; exact Calls.quiet_of (pAtEnd_no r s x _ HF3.out hi)) | (go_at_call 42; exact Calls.quiet_of (ix_any true _ _)))
    go_wp2_with fail
    go_quiet (fail)
    go_wp2_with fail
    go_ret2
    exact PNumOut.mk_ok _ (x.i + 1) HR'.out (by refine HU3.out.trans ?_; (repeat (first | exact Upd.refl _ _ | refine Upd.drewN ?_ | refine Upd.drew ?_ | refine Upd.setCell ?_ (by simp) _ | refine Upd.alloc ?_ _))) rfl (HF3.out.set1 (x.i + 1))

theorem pEscaped_any (r : Nat) (s : ByteArray) (x : RS) (w : World) (h : PdAt w r s x) (hi : x.i ≤ s.size) (hs : s.size ≤ 200) :
    Calls Tryd.prog 86 #[.pointer (some ⟨r, 0, none⟩)] w (PNumOut .u8 r s x w (Sp.escape s x.i)) := by
  by_cases hlt : x.i < s.size
  · cases h1 : Sp.isAt s x.i 110 with
    | true => exact pEscaped_n r s x w h hi hs h1
    | false => cases h2 : Sp.isAt s x.i 116 with
      | true => exact pEscaped_t r s x w h hi hs h2
      | false => cases h3 : Sp.isAt s x.i 120 with
        | true => exact pEscaped_x r s x w h hi hs h3
        | false => exact pEscaped_other r s x w h hlt hs h1 h2 h3
  · exact pEscaped_end r s x w h hi hs hlt
end Go.Proofs.YtadmlifmcdnhnaaDoor

set_option linter.unusedSimpArgs false
set_option linter.unusedVariables false
namespace Go.Proofs.YtadmlifmcdnhnaaDoor
open Go.RowKit

theorem byteBut_esc {l : Bool} {s : ByteArray} {i : Nat} (h : Sp.isAt s i 92 = true) : Sp.byteBut l s i = Sp.escape s (i + 1) := by unfold Sp.byteBut; rw [if_pos h]
theorem byteBut_out {l : Bool} {s : ByteArray} {i : Nat} (h : ¬ i < s.size) : Sp.byteBut l s i = .error (3, i) := by
  unfold Sp.byteBut; rw [if_neg (by rw [isAt_out h]; simp), if_neg (fun q => h q.1)]
theorem byteBut_sign {l : Bool} {s : ByteArray} {i : Nat} (h : Sp.isAt s i 92 = false) (hq : isSign l (Sp.byteAt s i) = true) : Sp.byteBut l s i = .error (3, i) := by
  unfold Sp.byteBut; rw [if_neg (by rw [h]; simp), if_neg (fun q => by have q2 := q.2; unfold isSign at hq; rw [hq] at q2; cases q2)]
theorem byteBut_byte {l : Bool} {s : ByteArray} {i : Nat} (hi : i < s.size) (h : Sp.isAt s i 92 = false) (hq : isSign l (Sp.byteAt s i) = false) : Sp.byteBut l s i = .ok (Sp.byteAt s i, i + 1) := by
  unfold Sp.byteBut; rw [if_neg (by rw [h]; simp), if_pos ⟨hi, hq⟩]

set_option maxHeartbeats 800000 in
theorem pByteBut_any (l : Bool) (r : Nat) (s : ByteArray) (x : RS) (w : World) (h : PdAt w r s x) (hi : x.i ≤ s.size) (hs : s.size ≤ 200) :
    Calls Tryd.prog 75 #[.pointer (some ⟨r, 0, none⟩), .string (sgL l)] w (PNumOut .u8 r s x w (Sp.byteBut l s x.i)) := by
  have hh : Hid (PdAt w r s x) := h
  clear h
  obtain ⟨sg, HS⟩ : ∃ sg, Hid (sg = sgL l) := ⟨sgL l, (rfl : sgL l = sgL l)⟩
  rw [← HS.out]
  cases hb : Sp.isAt s x.i 92 with
  | true =>
    have HB : Hid (Sp.isAt s x.i 92 = true) := hb
    have hlt := Sp.isAt_lt hb
    have HR : Hid (Sp.byteBut l s x.i = Sp.escape s (x.i + 1)) := byteBut_esc hb
    clear hb
    go_enter Tryd.func75, Tryd.ntmps75
    go_wp2_with fail
    refine (pTake_yes r s x _ _ (by exact hh.out) hs HB.out).mono ?_
    rintro e w1 ⟨rfl, hu, hf⟩
    have HU1 : Hid (Upd [r] w w1) := hu
    clear hu
    go_wp2_with fail
    refine (pEscaped_any r s ⟨x.i + 1, x.e, x.a, x.d, x.t⟩ _ (by exact hf) (by exact hlt) hs).mono ?_
    rintro e w2 ⟨hu2, hq⟩
    have HU2 : Hid (Upd [r] w w2) := HU1.out.trans hu2
    clear hu2 hf
    revert hq
    cases hr : Sp.escape s (x.i + 1) with
    | ok p =>
      obtain ⟨v, j⟩ := p
      rintro ⟨rfl, hf⟩
      have HR' : Hid (Sp.byteBut l s x.i = .ok (v, j)) := HR.out.trans hr
      clear hr
      go_wp2
      go_ret2
      exact PNumOut.mk_ok v j HR'.out HU2.out rfl hf
    | error p =>
      obtain ⟨e1, a1⟩ := p
      rintro ⟨v, i', rfl, hf⟩
      have HR' : Hid (Sp.byteBut l s x.i = .error (e1, a1)) := HR.out.trans hr
      clear hr
      go_wp2
      go_ret2
      exact PNumOut.mk_error e1 a1 v i' HR'.out HU2.out rfl hf
  | false =>
    have HB : Hid (Sp.isAt s x.i 92 = false) := hb
    clear hb
    by_cases hlt : x.i < s.size
    · have HV : Hid (Sp.byteAt s x.i = (s[x.i].toNat : Int)) := Sp.byteAt_in s x.i hlt
      cases hl : isSign l (Sp.byteAt s x.i) with
      | true =>
        have hx : 0 ≤ ixOf l (s[x.i].toNat : Int) := by
          have := ix_is (l := l) (c := (s[x.i].toNat : Int)) (by omega) (by have := s[x.i].toNat_lt; omega)
          rw [← HV.out, hl, HV.out] at this; simp at this; omega
        have HR : Hid (Sp.byteBut l s x.i = .error (3, x.i)) := byteBut_sign HB.out hl
        clear hl
        go_enter Tryd.func75, Tryd.ntmps75
        go_wp2_with fail
        refine (pTake_no r s x _ _ (by exact hh.out) hi hs HB.out).mono ?_
        rintro e w1 ⟨rfl, hu, hf⟩
        have HU1 : Hid (Upd [r] w w1) := hu
        have HF1 : Hid (PdAt w1 r s x) := hf
        obtain ⟨c0, c1, c2, c3, c4, c5, fz⟩ := HF1.out.facts
        clear hu hf
        go_wp2_with fail
        go_quiet (first | (go_at_call 26; exact Calls.quiet_of (pAtEnd_no r s x _ HF1.out hlt)) | (go_at_call 42; rw [HS.out]; exact Calls.quiet_of (ix_any l _ _)))
        go_wp2_with fail
        refine (pRefuse_any r s x _ _ _ (by exact HF1.out)).mono ?_
        rintro e w4 ⟨rfl, hu4, hf4⟩
        go_wp2_with fail
        go_ret2
        exact PNumOut.mk_error _ _ 0 x.i HR.out ((HU1.out.trans (drewN_upd _ _ _)).trans hu4) rfl hf4
      | false =>
        have hx : ¬ 0 ≤ ixOf l (s[x.i].toNat : Int) := by
          have := ix_is (l := l) (c := (s[x.i].toNat : Int)) (by omega) (by have := s[x.i].toNat_lt; omega)
          rw [← HV.out, hl, HV.out] at this; simp at this; omega
        have HR : Hid (Sp.byteBut l s x.i = .ok ((s[x.i].toNat : Int), x.i + 1)) := by show _ = _; rw [byteBut_byte hlt HB.out hl, HV.out]
        clear hl
        go_enter Tryd.func75, Tryd.ntmps75
        go_wp2_with fail
        refine (pTake_no r s x _ _ (by exact hh.out) hi hs HB.out).mono ?_
        rintro e w1 ⟨rfl, hu, hf⟩
        have HU1 : Hid (Upd [r] w w1) := hu
        have HF1 : Hid (PdAt w1 r s x) := hf
        obtain ⟨c0, c1, c2, c3, c4, c5, fz⟩ := HF1.out.facts
        clear hu hf
        go_wp2_with fail
        go_quiet (first | (go_at_call 26; exact Calls.quiet_of (pAtEnd_no r s x _ HF1.out hlt)) | (go_at_call 42; rw [HS.out]; exact Calls.quiet_of (ix_any l _ _)))
        go_wp2_with fail
        go_quiet (fail)
        go_wp2_with fail
        go_ret2
        exact PNumOut.mk_ok _ (x.i + 1) HR.out (by refine HU1.out.trans ?_; (repeat (first | exact Upd.refl _ _ | refine Upd.drewN ?_ | refine Upd.drew ?_ | refine Upd.setCell ?_ (by simp) _ | refine Upd.alloc ?_ _))) rfl (HF1.out.set1 (x.i + 1))
    · have HE : Hid (x.i = s.size) := by show _ = _; omega
      have HR : Hid (Sp.byteBut l s x.i = .error (3, x.i)) := byteBut_out hlt
      go_enter Tryd.func75, Tryd.ntmps75
      go_wp2_with fail
      refine (pTake_no r s x _ _ (by exact hh.out) hi hs HB.out).mono ?_
      rintro e w1 ⟨rfl, hu, hf⟩
      have HU1 : Hid (Upd [r] w w1) := hu
      have HF1 : Hid (PdAt w1 r s x) := hf
      obtain ⟨c0, c1, c2, c3, c4, c5, fz⟩ := HF1.out.facts
      clear hu hf
      go_wp2_with fail
      go_quiet ((go_at_call 26; exact Calls.quiet_of (pAtEnd_yes r s x _ HF1.out HE.out)))
      go_wp2_with fail
      refine (pRefuse_any r s x _ _ _ (by exact HF1.out)).mono ?_
      rintro e w4 ⟨rfl, hu4, hf4⟩
      go_wp2_with fail
      go_ret2
      exact PNumOut.mk_error _ _ 0 x.i HR.out ((HU1.out.trans (drewN_upd _ _ _)).trans hu4) rfl hf4

theorem pitem_1 {s : ByteArray} {i : Nat} {f : Sp.Fault} (h : Sp.byteBut true s i = .error f) : Sp.item s i = .error f := by unfold Sp.item; rw [h]
theorem pitem_2 {s : ByteArray} {i j : Nat} {a : Int} (h : Sp.byteBut true s i = .ok (a, j)) (h1 : Sp.isAt s j 45 = false) : Sp.item s i = .ok (a, a, j) := by unfold Sp.item; rw [h]; simp [h1]
theorem pitem_3 {s : ByteArray} {i j : Nat} {a : Int} {f : Sp.Fault} (h : Sp.byteBut true s i = .ok (a, j)) (h1 : Sp.isAt s j 45 = true) (h2 : Sp.byteBut true s (j + 1) = .error f) : Sp.item s i = .error f := by unfold Sp.item; rw [h]; simp [h1, h2]
theorem pitem_4 {s : ByteArray} {i j k : Nat} {a b : Int} (h : Sp.byteBut true s i = .ok (a, j)) (h1 : Sp.isAt s j 45 = true) (h2 : Sp.byteBut true s (j + 1) = .ok (b, k)) (h3 : b < a) : Sp.item s i = .error (3, (j + 1 : Nat)) := by unfold Sp.item; rw [h]; simp [h1, h2, h3]
theorem pitem_5 {s : ByteArray} {i j k : Nat} {a b : Int} (h : Sp.byteBut true s i = .ok (a, j)) (h1 : Sp.isAt s j 45 = true) (h2 : Sp.byteBut true s (j + 1) = .ok (b, k)) (h3 : ¬ b < a) : Sp.item s i = .ok (a, b, k) := by unfold Sp.item; rw [h]; simp [h1, h2, h3]

set_option maxHeartbeats 800000 in
theorem pItem_any (r : Nat) (s : ByteArray) (x : RS) (w : World) (h : PdAt w r s x) (hi : x.i ≤ s.size) (hs : s.size ≤ 200) :
    Calls Tryd.prog 83 #[.pointer (some ⟨r, 0, none⟩)] w (PTwoOut .u8 r s x w (Sp.item s x.i)) := by
  have hh : Hid (PdAt w r s x) := h
  clear h
  cases h1 : Sp.byteBut true s x.i with
  | error p =>
    obtain ⟨e1, a1⟩ := p
    have H1 : Hid (Sp.byteBut true s x.i = .error (e1, a1)) := h1
    have HR : Hid (Sp.item s x.i = .error (e1, a1)) := pitem_1 h1
    clear h1
    go_enter Tryd.func83, Tryd.ntmps83
    go_wp2_with fail
    refine (pByteBut_any true r s x _ (by exact hh.out) hi hs).mono ?_
    rw [H1.out]
    rintro e w1 ⟨hu, v, i', rfl, hf⟩
    go_wp2_with fail
    go_ret3
    exact PTwoOut.mk_error _ _ v v i' HR.out hu rfl hf
  | ok p =>
    obtain ⟨a, j⟩ := p
    have H1 : Hid (Sp.byteBut true s x.i = .ok (a, j)) := h1
    obtain ⟨_, hj⟩ := Sp.byteBut_in h1
    clear h1
    cases h2 : Sp.isAt s j 45 with
    | false =>
      have H2 : Hid (Sp.isAt s j 45 = false) := h2
      have HR : Hid (Sp.item s x.i = .ok (a, a, j)) := pitem_2 H1.out h2
      clear h2
      go_enter Tryd.func83, Tryd.ntmps83
      go_wp2_with fail
      refine (pByteBut_any true r s x _ (by exact hh.out) hi hs).mono ?_
      rw [H1.out]
      rintro e w1 ⟨hu, rfl, hf⟩
      have HU1 : Hid (Upd [r] w w1) := hu
      clear hu
      go_wp2_with fail
      refine (pTake_no r s ⟨j, x.e, x.a, x.d, x.t⟩ _ _ (by exact hf) hj hs H2.out).mono ?_
      rintro e w2 ⟨rfl, hu2, hf2⟩
      go_wp2_with fail
      go_ret3
      exact PTwoOut.mk_ok a a j HR.out (HU1.out.trans hu2) rfl hf2
    | true =>
      have H2 : Hid (Sp.isAt s j 45 = true) := h2
      have hj1 := Sp.isAt_lt h2
      clear h2
      cases h3 : Sp.byteBut true s (j + 1) with
      | error p =>
        obtain ⟨e1, a1⟩ := p
        have H3 : Hid (Sp.byteBut true s (j + 1) = .error (e1, a1)) := h3
        have HR : Hid (Sp.item s x.i = .error (e1, a1)) := pitem_3 H1.out H2.out h3
        clear h3
        go_enter Tryd.func83, Tryd.ntmps83
        go_wp2_with fail
        refine (pByteBut_any true r s x _ (by exact hh.out) hi hs).mono ?_
        rw [H1.out]
        rintro e w1 ⟨hu, rfl, hf⟩
        have HU1 : Hid (Upd [r] w w1) := hu
        clear hu
        go_wp2_with fail
        refine (pTake_yes r s ⟨j, x.e, x.a, x.d, x.t⟩ _ _ (by exact hf) hs H2.out).mono ?_
        rintro e w2 ⟨rfl, hu2, hf2⟩
        have HU2 : Hid (Upd [r] w w2) := HU1.out.trans hu2
        have HF2 : Hid (PdAt w2 r s ⟨j + 1, x.e, x.a, x.d, x.t⟩) := hf2
        obtain ⟨c0, c1, c2, c3, c4, c5, fz⟩ := HF2.out.facts
        clear hu2 hf hf2
        go_wp2_with fail
        refine (pByteBut_any true r s ⟨j + 1, x.e, x.a, x.d, x.t⟩ _ (by exact HF2.out) (by exact hj1) hs).mono ?_
        rw [show Sp.byteBut true s _ = _ from H3.out]
        rintro e w3 ⟨hu3, v, i', rfl, hf3⟩
        go_wp2_with fail
        go_ret3
        exact PTwoOut.mk_error _ _ a v i' HR.out (HU2.out.trans hu3) rfl hf3
      | ok p =>
        obtain ⟨b, k⟩ := p
        have H3 : Hid (Sp.byteBut true s (j + 1) = .ok (b, k)) := h3
        clear h3
        go_enter Tryd.func83, Tryd.ntmps83
        go_wp2_with fail
        refine (pByteBut_any true r s x _ (by exact hh.out) hi hs).mono ?_
        rw [H1.out]
        rintro e w1 ⟨hu, rfl, hf⟩
        have HU1 : Hid (Upd [r] w w1) := hu
        clear hu
        go_wp2_with fail
        refine (pTake_yes r s ⟨j, x.e, x.a, x.d, x.t⟩ _ _ (by exact hf) hs H2.out).mono ?_
        rintro e w2 ⟨rfl, hu2, hf2⟩
        have HU2 : Hid (Upd [r] w w2) := HU1.out.trans hu2
        have HF2 : Hid (PdAt w2 r s ⟨j + 1, x.e, x.a, x.d, x.t⟩) := hf2
        obtain ⟨c0, c1, c2, c3, c4, c5, fz⟩ := HF2.out.facts
        clear hu2 hf hf2
        go_wp2_with fail
        refine (pByteBut_any true r s ⟨j + 1, x.e, x.a, x.d, x.t⟩ _ (by exact HF2.out) (by exact hj1) hs).mono ?_
        rw [show Sp.byteBut true s _ = _ from H3.out]
        rintro e w3 ⟨hu3, rfl, hf3⟩
        have HU3 : Hid (Upd [r] w w3) := HU2.out.trans hu3
        have HF3 : Hid (PdAt w3 r s ⟨k, x.e, x.a, x.d, x.t⟩) := hf3
        clear hu3 hf3
        by_cases hlt : b < a
        · have HR : Hid (Sp.item s x.i = .error (3, (j + 1 : Nat))) := pitem_4 H1.out H2.out H3.out hlt
          go_wp2_with fail
          refine (pRefuse_any r s ⟨k, x.e, x.a, x.d, x.t⟩ _ _ _ (by exact HF3.out)).mono ?_
          rintro e w4 ⟨rfl, hu4, hf4⟩
          go_wp2_with fail
          go_ret3
          exact PTwoOut.mk_error _ _ a b k HR.out (HU3.out.trans hu4) rfl hf4
        · have HR : Hid (Sp.item s x.i = .ok (a, b, k)) := pitem_5 H1.out H2.out H3.out hlt
          go_wp2_with fail
          go_ret3
          exact PTwoOut.mk_ok a b k HR.out HU3.out rfl HF3.out
end Go.Proofs.YtadmlifmcdnhnaaDoor

set_option linter.unusedSimpArgs false
set_option linter.unusedVariables false
namespace Go.Proofs.YtadmlifmcdnhnaaDoor
open Go.RowKit

namespace Sp
theorem mul_nn {a b : Int} (h : 0 ≤ a) (k : 0 ≤ b) : 0 ≤ a * b := Int.mul_nonneg h k
theorem sz1_nn {a : Lab} {n : Int} (h : 0 ≤ n) : 0 ≤ sz1 a n := by
  have h1 : 0 ≤ (if a.kind = 3 then max n 1 else n) := by split <;> omega
  unfold sz1
  split
  · exact h1
  · split
    · have := mul_nn h1 (by omega : (0 : Int) ≤ max a.min 1); omega
    · have := mul_nn h1 (by omega : (0 : Int) ≤ a.max); omega
theorem szB_nn (a : Lab) : 0 ≤ szB a := by unfold szB; split <;> omega
theorem sizes_nn : ∀ (l : List Tr) (acc : Int), 0 ≤ acc → 0 ≤ sizes acc l
  | [], acc, h => by rw [sizes]; exact h
  | ⟨a, ks⟩ :: r, acc, h => by
    rw [sizes]
    have := sz1_nn (a := a) (sizes_nn ks (szB a) (szB_nn a))
    exact sizes_nn r _ (by omega)
theorem size_nn (t : Tr) : 0 ≤ size t := sz1_nn (sizes_nn _ _ (szB_nn _))
end Sp

/-- A tree without its count. -/
def bareOf (t : Tr) : Tr := ⟨{ t.lab with min := -1 }, t.kids⟩
/-- The program's size of a tree. -/
def psz (t : Tr) : Int := min (Sp.size t) 61
theorem psz_nn (t : Tr) : 0 ≤ psz t := by have := Sp.size_nn t; unfold psz; omega
theorem psz_le (t : Tr) : psz t ≤ 61 := by unfold psz; omega
/-- The program's size of trees together. -/
def pszs (ts : List Tr) : Int := min (Sp.sizes 0 ts) 61
theorem pszs_nil : pszs [] = 0 := by unfold pszs; rw [Sp.sizes]; rfl
theorem pszs_snoc (ts : List Tr) (t : Tr) : pszs (ts ++ [t]) = min (pszs ts + psz t) 61 := by
  have h1 := Sp.size_nn t
  have h2 := Sp.sizes_nn ts 0 (by omega)
  unfold pszs psz; rw [Sp.sizes_snoc]; omega
theorem pszs_one (t : Tr) : pszs [t] = psz t := by
  have h1 := Sp.size_nn t
  have : pszs [t] = _ := pszs_snoc [] t
  rw [this, pszs_nil]; unfold psz; omega
theorem pszs_bd (ts : List Tr) : 0 ≤ pszs ts ∧ pszs ts ≤ 61 := by
  have h2 := Sp.sizes_nn ts 0 (by omega)
  unfold pszs; omega
theorem psz_kids {t : Tr} (hm : t.lab.min < 0) (hk : 3 < t.lab.kind) : psz t = pszs t.kids := by
  unfold psz pszs Sp.size Sp.sz1 Sp.szB
  rw [if_pos hm, if_neg (by omega), if_neg (by omega)]
theorem psz_group {t : Tr} (hm : t.lab.min < 0) (hk : t.lab.kind = 3) : psz t = max (pszs t.kids) 1 := by
  unfold psz pszs Sp.size Sp.sz1 Sp.szB
  rw [if_pos hm, if_pos hk, if_neg (by omega)]; omega
theorem psz_leaf {t : Tr} (hm : t.lab.min < 0) (hk : t.lab.kind ≤ 2) (hn : t.kids = []) : psz t = 1 := by
  unfold psz Sp.size Sp.sz1 Sp.szB
  rw [if_pos hm, if_neg (by omega), if_pos hk, hn, Sp.sizes]; rfl
theorem sat_mul {b n : Int} (hb : 0 ≤ b) (hn : 0 ≤ n) : min (min b 61 * n) 61 = min (min (b * n) 1000000) 61 := by
  rcases Int.lt_or_le b 61 with h | h
  · rw [show min b 61 = b by omega]; omega
  · rw [show min b 61 = 61 by omega]
    rcases (by omega : n = 0 ∨ 1 ≤ n) with rfl | h1
    · rw [Int.mul_zero, Int.mul_zero]; omega
    · have : 61 * 1 ≤ b * n := Int.mul_le_mul h h1 (by omega) (by omega)
      omega
theorem psz_turns {t : Tr} {m n : Int} (ht : t.lab.min < 0) (hm : 0 ≤ m) : psz ⟨{ t.lab with min := m, max := n }, t.kids⟩ = min (psz t * (if n < 0 then max m 1 else n)) 61 := by
  have h0 := Sp.size_nn t
  have e : Sp.size t = (if t.lab.kind = 3 then max (Sp.sizes (Sp.szB t.lab) t.kids) 1 else Sp.sizes (Sp.szB t.lab) t.kids) := by
    unfold Sp.size Sp.sz1; rw [if_pos ht]
  unfold psz
  rw [sat_mul h0 (by split <;> omega), e]
  unfold Sp.size Sp.sz1
  show min (if m < 0 then _ else if n < 0 then _ else _) 61 = _
  rw [if_neg (by omega)]
  split <;> rfl

/-- The bytes of a list that lie in one word: n bits from a place on. -/
def word (f : Nat → Bool) (b : Nat) : Nat → Nat
  | 0 => 0
  | n + 1 => (if f (b + n) then 2 ^ n else 0) + word f b n
theorem word_lt (f : Nat → Bool) (b : Nat) : ∀ n, word f b n < 2 ^ n
  | 0 => by simp [word]
  | n + 1 => by
    have := word_lt f b n
    rw [word, Nat.pow_succ]; split <;> omega
theorem word_bit (f : Nat → Bool) (b : Nat) : ∀ n i, i < n → (word f b n).testBit i = f (b + i)
  | 0, i, h => by omega
  | n + 1, i, h => by
    rw [word]
    rcases Nat.lt_or_eq_of_le (Nat.le_of_lt_succ h) with h1 | h1
    · split
      · rw [Nat.testBit_two_pow_add_gt h1]; exact word_bit f b n i h1
      · rw [Nat.zero_add]; exact word_bit f b n i h1
    · subst h1
      have hz : (word f b i).testBit i = false := Nat.testBit_lt_two_pow (word_lt f b i)
      split
      · rename_i q; rw [Nat.testBit_two_pow_add_eq, hz, q]; rfl
      · rename_i q; rw [Nat.zero_add, hz]; cases hf : f (b + i); rfl; exact absurd hf q

/-- A node of the program's: its own fields. -/
structure TN where
  kind : Int
  size : Int
  parts : Value
  byte : Int
  s0 : Int
  s1 : Int
  s2 : Int
  s3 : Int
  not : Bool
  num : Int
  least : Int
  most : Int
def tnCells (a : TN) : Array Value := #[.int .i64 a.kind, .int .i64 a.size, a.parts, .int .u8 a.byte, .int .u64 a.s0, .int .u64 a.s1, .int .u64 a.s2, .int .u64 a.s3, .bool a.not, .int .i64 a.num, .int .i64 a.least, .int .i64 a.most]
def TnAt (w : World) (p : Nat) (a : TN) : Prop := w.heap[p]? = some (.cells (tnCells a) 65 (0, 0))
structure TnFacts (w : World) (p : Nat) (a : TN) : Prop where
  c0 : w.cell? ⟨p, 0, none⟩ = some (.int .i64 a.kind)
  c1 : w.cell? ⟨p, 1, none⟩ = some (.int .i64 a.size)
  c2 : w.cell? ⟨p, 2, none⟩ = some a.parts
  c3 : w.cell? ⟨p, 3, none⟩ = some (.int .u8 a.byte)
  c4 : w.cell? ⟨p, 4, none⟩ = some (.int .u64 a.s0)
  c5 : w.cell? ⟨p, 5, none⟩ = some (.int .u64 a.s1)
  c6 : w.cell? ⟨p, 6, none⟩ = some (.int .u64 a.s2)
  c7 : w.cell? ⟨p, 7, none⟩ = some (.int .u64 a.s3)
  c8 : w.cell? ⟨p, 8, none⟩ = some (.bool a.not)
  c9 : w.cell? ⟨p, 9, none⟩ = some (.int .i64 a.num)
  c10 : w.cell? ⟨p, 10, none⟩ = some (.int .i64 a.least)
  c11 : w.cell? ⟨p, 11, none⟩ = some (.int .i64 a.most)
  fz : ∀ o, w.frozen? ⟨p, o, none⟩ = false
theorem TnAt.facts {w : World} {p : Nat} {a : TN} (h : TnAt w p a) : TnFacts w p a := by
  unfold TnAt tnCells at h
  refine ⟨?_, ?_, ?_, ?_, ?_, ?_, ?_, ?_, ?_, ?_, ?_, ?_, ?_⟩ <;> (try intro o) <;> simp [World.cell?, World.frozen?, h]
theorem TnAt.lt {w : World} {p : Nat} {a : TN} (h : TnAt w p a) : p < w.heap.size := lt_of_heap h
theorem TnAt.same {w w' : World} {p : Nat} {a : TN} (h : TnAt w p a) (hb : w'.heap[p]? = w.heap[p]?) : TnAt w' p a := hb.trans h

/-- The program's number of a kind. -/
def kindP (k : Nat) : Int := if k = 4 then 6 else k
def wordP (a : Lab) (j : Nat) : Int := if a.kind = 2 then (word a.set (64 * j) 64 : Nat) else 0
/-- The fields of the node of a tree without its count. -/
def tnOf (a : Lab) (sz : Int) (l : Value) : TN :=
  { kind := kindP a.kind, size := sz, parts := l, byte := if a.kind = 0 then a.byte else 0, s0 := wordP a 0, s1 := wordP a 1, s2 := wordP a 2, s3 := wordP a 3, not := decide (a.kind = 2) && a.not, num := if a.kind = 3 then a.num else 0, least := 0, most := 0 }
/-- The fields of the node of a count. -/
def tnTurns (sz : Int) (l : Value) (m n : Int) : TN := { kind := 4, size := sz, parts := l, byte := 0, s0 := 0, s1 := 0, s2 := 0, s3 := 0, not := false, num := 0, least := m, most := n }

/-- A count lies above its atom's node, q; without one it is that node. -/
def TurnAt (w : World) (S : Nat → Prop) (p q : Nat) (a : Lab) (sz : Int) : Prop :=
  (a.min < 0 ∧ q = p) ∨ (0 ≤ a.min ∧ S p ∧ ∃ l, TnAt w p (tnTurns sz l a.min a.max) ∧ w.ownsRow 0 34 1 l 1 [ptr q] ∧ ∀ g, l.ownBlock = some g → S g)

/-- The program's trees, as they lie in memory: all their blocks are in S. -/
def NodesAt (w : World) : (Nat → Prop) → List Nat → List Tr → Prop
  | _, [], [] => True
  | S, p :: ps, ⟨a, ks⟩ :: r => (∃ q l qs, TurnAt w S p q a (psz ⟨a, ks⟩) ∧ S q ∧ TnAt w q (tnOf a (psz (bareOf ⟨a, ks⟩)) l) ∧ w.ownsRow 0 34 1 l qs.length (qs.map ptr) ∧ (∀ g, l.ownBlock = some g → S g) ∧ NodesAt w S qs ks) ∧ NodesAt w S ps r
  | _, _, _ => False

theorem NodesAt_nil (w : World) (S : Nat → Prop) : NodesAt w S [] [] := by unfold NodesAt; trivial
theorem NodesAt_cons (w : World) (S : Nat → Prop) (p : Nat) (ps : List Nat) (a : Lab) (ks r : List Tr) : NodesAt w S (p :: ps) (⟨a, ks⟩ :: r) = ((∃ q l qs, TurnAt w S p q a (psz ⟨a, ks⟩) ∧ S q ∧ TnAt w q (tnOf a (psz (bareOf ⟨a, ks⟩)) l) ∧ w.ownsRow 0 34 1 l qs.length (qs.map ptr) ∧ (∀ g, l.ownBlock = some g → S g) ∧ NodesAt w S qs ks) ∧ NodesAt w S ps r) := by rw [NodesAt]
theorem NodesAt_no1 {w : World} {S : Nat → Prop} {t : Tr} {r : List Tr} (h : NodesAt w S [] (t :: r)) : False := by obtain ⟨a, ks⟩ := t; unfold NodesAt at h; exact h
theorem NodesAt_no2 {w : World} {S : Nat → Prop} {p : Nat} {ps : List Nat} (h : NodesAt w S (p :: ps) []) : False := by unfold NodesAt at h; exact h

theorem TurnAt.same {w w' : World} {S : Nat → Prop} {p q : Nat} {a : Lab} {sz : Int} (h : TurnAt w S p q a sz) (hb : ∀ k, S k → k < w.heap.size → w'.heap[k]? = w.heap[k]?) : TurnAt w' S p q a sz := by
  rcases h with h | ⟨h0, h1, l, h2, h3, h4⟩
  · exact Or.inl h
  · exact Or.inr ⟨h0, h1, l, h2.same (hb p h1 h2.lt), ownsRow_same h3 (fun g hg hl => hb g (h4 g hg) hl), h4⟩
theorem TurnAt.mono {w : World} {S S' : Nat → Prop} {p q : Nat} {a : Lab} {sz : Int} (h : TurnAt w S p q a sz) (hb : ∀ k, S k → k < w.heap.size → S' k) : TurnAt w S' p q a sz := by
  rcases h with h | ⟨h0, h1, l, h2, h3, h4⟩
  · exact Or.inl h
  · exact Or.inr ⟨h0, hb p h1 h2.lt, l, h2, h3, fun g hg => hb g (h4 g hg) (ownBlock_lt h3 hg).1⟩
theorem NodesAt.same {w w' : World} {S : Nat → Prop} : ∀ (ps : List Nat) (ts : List Tr), NodesAt w S ps ts → (∀ k, S k → k < w.heap.size → w'.heap[k]? = w.heap[k]?) → NodesAt w' S ps ts
  | [], [], _, _ => NodesAt_nil _ _
  | p :: ps, ⟨a, ks⟩ :: r, h, hb => by
    rw [NodesAt_cons] at h ⊢
    obtain ⟨⟨q, l, qs, h1, h2, h3, h4, h5, h6⟩, h7⟩ := h
    exact ⟨⟨q, l, qs, h1.same hb, h2, h3.same (hb q h2 h3.lt), ownsRow_same h4 (fun g hg hl => hb g (h5 g hg) hl), h5, NodesAt.same qs ks h6 hb⟩, NodesAt.same ps r h7 hb⟩
  | [], _ :: _, h, _ => (NodesAt_no1 h).elim
  | _ :: _, [], h, _ => (NodesAt_no2 h).elim
theorem NodesAt.mono {w : World} {S S' : Nat → Prop} : ∀ (ps : List Nat) (ts : List Tr), NodesAt w S ps ts → (∀ k, S k → k < w.heap.size → S' k) → NodesAt w S' ps ts
  | [], [], _, _ => NodesAt_nil _ _
  | p :: ps, ⟨a, ks⟩ :: r, h, hb => by
    rw [NodesAt_cons] at h ⊢
    obtain ⟨⟨q, l, qs, h1, h2, h3, h4, h5, h6⟩, h7⟩ := h
    exact ⟨⟨q, l, qs, h1.mono hb, hb q h2 h3.lt, h3, h4, fun g hg => hb g (h5 g hg) (ownBlock_lt h4 hg).1, NodesAt.mono qs ks h6 hb⟩, NodesAt.mono ps r h7 hb⟩
  | [], _ :: _, h, _ => (NodesAt_no1 h).elim
  | _ :: _, [], h, _ => (NodesAt_no2 h).elim
theorem NodesAt.append {w : World} {S : Nat → Prop} : ∀ (ps : List Nat) (ts : List Tr) (qs : List Nat) (us : List Tr), NodesAt w S ps ts → NodesAt w S qs us → NodesAt w S (ps ++ qs) (ts ++ us)
  | [], [], _, _, _, h => h
  | p :: ps, ⟨a, ks⟩ :: r, qs, us, h1, h => by
    rw [NodesAt_cons] at h1
    show NodesAt w S (p :: (ps ++ qs)) (⟨a, ks⟩ :: (r ++ us))
    rw [NodesAt_cons]
    exact ⟨h1.1, NodesAt.append ps r qs us h1.2 h⟩
  | [], _ :: _, _, _, h, _ => (NodesAt_no1 h).elim
  | _ :: _, [], _, _, h, _ => (NodesAt_no2 h).elim
theorem NodesAt.length {w : World} {S : Nat → Prop} : ∀ (ps : List Nat) (ts : List Tr), NodesAt w S ps ts → ps.length = ts.length
  | [], [], _ => rfl
  | p :: ps, ⟨a, ks⟩ :: r, h => by rw [NodesAt_cons] at h; simp [NodesAt.length ps r h.2]
  | [], _ :: _, h => (NodesAt_no1 h).elim
  | _ :: _, [], h => (NodesAt_no2 h).elim
theorem NodesAt.upd {l : List Nat} {w w' : World} {S : Nat → Prop} {ps : List Nat} {ts : List Tr} (h : NodesAt w S ps ts) (u : Upd l w w') (hl : ∀ k, k ∈ l → ¬ S k) : NodesAt w' S ps ts :=
  NodesAt.same ps ts h (fun k hk hlt => u.block k hlt (fun q => hl k q hk))
theorem nodePsz {w : World} {S : Nat → Prop} {p : Nat} {t : Tr} (h : NodesAt w S [p] [t]) : w.cell? ⟨p, 1, none⟩ = some (.int .i64 (psz t)) := by
  obtain ⟨a, ks⟩ := t
  rw [NodesAt_cons] at h
  obtain ⟨⟨q, l, qs, h1, h2, h3, h4, h5, h6⟩, _⟩ := h
  rcases h1 with ⟨hm, rfl⟩ | ⟨h0, hS, l', ht, _, _⟩
  · have : psz (bareOf ⟨a, ks⟩) = psz ⟨a, ks⟩ := by
      unfold psz bareOf Sp.size Sp.sz1; simp [hm, Sp.szB]
    rw [← this]; exact h3.facts.c1
  · exact ht.facts.c1

/-- What a call of the program's that reads a part of the tree leaves. -/
def PNodeOut (r : Nat) (s : ByteArray) (x : RS) (w : World) (res : Sp.Res (Tr × Sp.At)) (k : Ending) (w' : World) : Prop :=
  Upd [r] w w' ∧ match res with
  | .ok (t, y) => ∃ p, k = .returned (.tuple #[ptr p, .bool true]) ∧ NodesAt w' (fun k => w.heap.size ≤ k) [p] [t] ∧ PdAt w' r s { x with i := y.i, t := y.t }
  | .error (e, a) => ∃ i' t', k = .returned (.tuple #[.pointer none, .bool false]) ∧ PdAt w' r s ⟨i', e, a, x.d, t'⟩
theorem PNodeOut.mk_ok {r : Nat} {s : ByteArray} {x : RS} {w w' : World} {res : Sp.Res (Tr × Sp.At)} {k : Ending} (t : Tr) (y : Sp.At) (p : Nat) (h : res = .ok (t, y)) (u : Upd [r] w w') (hk : k = .returned (.tuple #[ptr p, .bool true])) (hn : NodesAt w' (fun k => w.heap.size ≤ k) [p] [t]) (hr : PdAt w' r s { x with i := y.i, t := y.t }) : PNodeOut r s x w res k w' := by
  subst h; exact ⟨u, p, hk, hn, hr⟩
theorem PNodeOut.mk_error {r : Nat} {s : ByteArray} {x : RS} {w w' : World} {res : Sp.Res (Tr × Sp.At)} {k : Ending} (e a : Int) (i' : Nat) (t' : Int) (h : res = .error (e, a)) (u : Upd [r] w w') (hk : k = .returned (.tuple #[.pointer none, .bool false])) (hr : PdAt w' r s ⟨i', e, a, x.d, t'⟩) : PNodeOut r s x w res k w' := by
  subst h; exact ⟨u, i', t', hk, hr⟩
end Go.Proofs.YtadmlifmcdnhnaaDoor
