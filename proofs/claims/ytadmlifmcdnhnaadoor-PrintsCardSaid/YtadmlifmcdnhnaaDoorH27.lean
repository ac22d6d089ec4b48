import Derived.Test.YtadmlifmcdnhnaaDoorH26
import Derived.Shelf.Small.Strs
import Derived.Test.YtadmlifmcdnhnaaDoorRows
set_option linter.unusedSimpArgs false
set_option linter.unusedVariables false
namespace Go.Proofs.YtadmlifmcdnhnaaDoor
open Go.RowKit

/-- One digit of two. -/
def hexD (s : ByteArray) (i : Nat) : Sp.Res (Int × Nat) := if i < s.size ∧ 0 ≤ Sp.hex (Sp.byteAt s i) then .ok (Sp.hex (Sp.byteAt s i), i + 1) else .error (3, i)
theorem hexD_ok {s : ByteArray} {i : Nat} {v : Int} (hi : i < s.size) (hv : Sp.hex (Sp.byteAt s i) = v) (h0 : 0 ≤ v) : hexD s i = .ok (v, i + 1) := by
  subst hv; exact if_pos ⟨hi, h0⟩
theorem hexD_no {s : ByteArray} {i : Nat} (h : ¬ (i < s.size ∧ 0 ≤ Sp.hex (Sp.byteAt s i))) : hexD s i = .error (3, i) := if_neg h
theorem hexD_in {s : ByteArray} {i j : Nat} {v : Int} (h : hexD s i = .ok (v, j)) : j = i + 1 ∧ i < s.size ∧ 0 ≤ v ∧ v ≤ 15 := by
  unfold hexD at h; split at h
  · rename_i q; cases h; exact ⟨rfl, q.1, q.2, hex_hi _⟩
  · cases h
theorem hexPair_d1 {s : ByteArray} {i : Nat} {f : Sp.Fault} (h : hexD s i = .error f) : Sp.hexPair s i = .error f := by
  unfold hexD at h; unfold Sp.hexPair; split at h
  · cases h
  · rename_i q; rw [if_neg q, ← h]
theorem hexPair_d2 {s : ByteArray} {i j : Nat} {a : Int} {f : Sp.Fault} (h : hexD s i = .ok (a, j)) (k : hexD s j = .error f) : Sp.hexPair s i = .error f := by
  unfold hexD at h k; unfold Sp.hexPair; split at h
  · rename_i q; cases h; rw [if_pos q]; split at k
    · cases k
    · rename_i q2; rw [if_neg q2, ← k]
  · cases h
theorem hexPair_d3 {s : ByteArray} {i j k : Nat} {a b : Int} (h : hexD s i = .ok (a, j)) (g : hexD s j = .ok (b, k)) : Sp.hexPair s i = .ok (16 * a + b, k) := by
  unfold hexD at h g; unfold Sp.hexPair; split at h
  · rename_i q; cases h; rw [if_pos q]; split at g
    · rename_i q2; cases g; rw [if_pos q2]
    · cases g
  · cases h

set_option maxHeartbeats 800000 in
theorem pHexDigit_any (r : Nat) (s : ByteArray) (x : RS) (w : World) (h : PdAt w r s x) (hi : x.i ≤ s.size) (hs : s.size ≤ 200) :
    Calls Tryd.prog 99 #[.pointer (some ⟨r, 0, none⟩)] w (PNumOut .u8 r s x w (hexD s x.i)) := by
  obtain ⟨c0, c1, c2, c3, c4, c5, fz⟩ := h.facts
  have hh : Hid (PdAt w r s x) := h
  clear h
  by_cases hlt : x.i < s.size
  · have HB : Hid (Sp.byteAt s x.i = (s[x.i].toNat : Int)) := Sp.byteAt_in s x.i hlt
    go_enter Tryd.func99, Tryd.ntmps99
    go_wp2_with fail
    refine (pAtEnd_no r s x _ (by exact hh.out) hlt).mono ?_
    rintro e w1 ⟨rfl, n, rfl⟩
    go_wp2_with fail
    go_quiet (fail)
    go_wp2_with (go_at_call 27; refine (pRefuse_any r s ⟨x.i + 1, x.e, x.a, x.d, x.t⟩ _ _ _ (by exact (hh.out.drewN n).set1 (x.i + 1))).mono ?_; rintro e w5 ⟨rfl, hu5, hf5⟩)
    all_goals go_ret2
    all_goals first
      | exact PNumOut.mk_ok _ (x.i + 1) (by exact hexD_ok hlt (by rw [HB.out]; unfold Sp.hex; (repeat' split) <;> omega) (by omega)) (by (repeat (first | exact Upd.refl _ _ | refine Upd.drewN ?_ | refine Upd.drew ?_ | refine Upd.setCell ?_ (by simp) _ | refine Upd.alloc ?_ _))) rfl ((hh.out.drewN n).set1 (x.i + 1))
      | exact PNumOut.mk_error _ _ 0 (x.i + 1) (hexD_no (fun q => by have q2 := q.2; rw [HB.out] at q2; unfold Sp.hex at q2; (repeat' split at q2) <;> omega)) (by refine Upd.trans ?_ hu5; (repeat (first | exact Upd.refl _ _ | refine Upd.drewN ?_ | refine Upd.drew ?_ | refine Upd.setCell ?_ (by simp) _ | refine Upd.alloc ?_ _))) rfl (by simpa using hf5)
  · have HE : Hid (x.i = s.size) := by show _ = _; omega
    go_enter Tryd.func99, Tryd.ntmps99
    go_wp2_with fail
    refine (pAtEnd_yes r s x _ (by exact hh.out) HE.out).mono ?_
    rintro e w1 ⟨rfl, n, rfl⟩
    go_wp2_with fail
    refine (pRefuse_any r s x _ _ _ (by exact hh.out.drewN n)).mono ?_
    rintro e w2 ⟨rfl, hu, hf⟩
    go_wp2_with fail
    go_ret2
    exact PNumOut.mk_error _ _ 0 x.i (hexD_no (fun q => hlt q.1)) ((drewN_upd _ _ _).trans hu) rfl hf

theorem or_all : ((List.range 16).all fun a => (List.range 16).all fun b => bits BinOp.or IntKind.u8 ((a : Int) * 16) (b : Int) == 16 * (a : Int) + b) = true := by kernel_rfl
theorem or_hex {a b : Int} (h0 : 0 ≤ a) (h1 : a ≤ 15) (k0 : 0 ≤ b) (k1 : b ≤ 15) : bits BinOp.or IntKind.u8 (a * 16) b = 16 * a + b := by
  obtain ⟨m, rfl⟩ := Int.eq_ofNat_of_zero_le h0
  obtain ⟨n, rfl⟩ := Int.eq_ofNat_of_zero_le k0
  have h := or_all
  rw [List.all_eq_true] at h
  have h2 := h m (List.mem_range.2 (by omega))
  rw [List.all_eq_true] at h2
  have h3 := h2 n (List.mem_range.2 (by omega))
  simpa using h3

set_option maxHeartbeats 800000 in
theorem pHexPair_any (r : Nat) (s : ByteArray) (x : RS) (w : World) (h : PdAt w r s x) (hi : x.i ≤ s.size) (hs : s.size ≤ 200) :
    Calls Tryd.prog 93 #[.pointer (some ⟨r, 0, none⟩)] w (PNumOut .u8 r s x w (Sp.hexPair s x.i)) := by
  have hh : Hid (PdAt w r s x) := h
  clear h
  cases h1 : hexD s x.i with
  | error p =>
    obtain ⟨e1, a1⟩ := p
    have H1 : Hid (hexD s x.i = .error (e1, a1)) := h1
    clear h1
    go_enter Tryd.func93, Tryd.ntmps93
    go_wp2_with fail
    refine (pHexDigit_any r s x _ (by exact hh.out) hi hs).mono ?_
    rw [H1.out]
    rintro e w1 ⟨hu, v, i', rfl, hf⟩
    go_wp2_with fail
    go_ret2
    exact PNumOut.mk_error _ _ 0 i' (hexPair_d1 H1.out) hu rfl hf
  | ok p =>
    obtain ⟨a, j⟩ := p
    have H1 : Hid (hexD s x.i = .ok (a, j)) := h1
    obtain ⟨hj, hi1, ha0, ha1⟩ := hexD_in h1
    clear h1
    go_enter Tryd.func93, Tryd.ntmps93
    go_wp2_with fail
    refine (pHexDigit_any r s x _ (by exact hh.out) hi hs).mono ?_
    rw [H1.out]
    rintro e w1 ⟨hu, rfl, hf⟩
    have HU1 : Hid (Upd [r] w w1) := hu
    have HF1 : Hid (PdAt w1 r s ⟨j, x.e, x.a, x.d, x.t⟩) := hf
    clear hu hf
    cases h2 : hexD s j with
    | error p =>
      obtain ⟨e1, a1⟩ := p
      have H2 : Hid (hexD s j = .error (e1, a1)) := h2
      clear h2
      go_wp2_with fail
      refine (pHexDigit_any r s ⟨j, x.e, x.a, x.d, x.t⟩ _ (by exact HF1.out) (by show j ≤ _; omega) hs).mono ?_
      rw [show hexD s _ = _ from H2.out]
      rintro e w2 ⟨hu, v, i', rfl, hf⟩
      go_wp2_with fail
      go_ret2
      exact PNumOut.mk_error _ _ _ i' (hexPair_d2 H1.out H2.out) (HU1.out.trans hu) rfl hf
    | ok p =>
      obtain ⟨b, k⟩ := p
      have H2 : Hid (hexD s j = .ok (b, k)) := h2
      obtain ⟨hk, hj1, hb0, hb1⟩ := hexD_in h2
      clear h2
      go_wp2_with fail
      refine (pHexDigit_any r s ⟨j, x.e, x.a, x.d, x.t⟩ _ (by exact HF1.out) (by show j ≤ _; omega) hs).mono ?_
      rw [show hexD s _ = _ from H2.out]
      rintro e w2 ⟨hu, rfl, hf⟩
      go_wp2_with fail
      go_ret2
      exact PNumOut.mk_ok (16 * a + b) k (hexPair_d3 H1.out H2.out) (HU1.out.trans hu) (tup2 (int_eq (or_hex ha0 ha1 hb0 hb1)) rfl) hf
end Go.Proofs.YtadmlifmcdnhnaaDoor

/- The library's strings.IndexByte, by the shelf's contract, at this program's numbers. -/
namespace Go.Proofs.YtadmlifmcdnhnaaDoor
open Go.RowKit Go.Shelf

def ren137 : Go.Shelf.Ren := ⟨fun | 137 => 42 | 217 => 57 | 266 => 67 | n => n, fun | 9 => 9 | 5 => 5 | 3 => 3 | n => n, fun | n => n⟩
theorem lays137 : Go.Proofs.Lays.n137 Tryd.prog ren137 := {
  mixed := by kernel_rfl
  f137 := Tryd.func42.trans (congrArg some (by kernel_rfl))
  f217 := Tryd.func57.trans (congrArg some (by kernel_rfl))
  f266 := Tryd.func67.trans (congrArg some (by kernel_rfl))
  t3 := Tryd.underlying3
  a3 := Tryd.isAgg3
  z3 := Tryd.sizeOf3
  v3 := Tryd.zeroValue3
  t5 := Tryd.underlying5
  a5 := Tryd.isAgg5
  z5 := Tryd.sizeOf5
  v5 := Tryd.zeroValue5
  t9 := Tryd.underlying9
  a9 := Tryd.isAgg9
  z9 := Tryd.sizeOf9
  v9 := Tryd.zeroValue9 }
theorem indexByte_any (s : ByteArray) (c : Int) (w : World) :
    Calls Tryd.prog 42 #[.string s, .int .u8 c] w fun e w' => e = .returned (.int .i64 (Lib.indexByte s.data.toList c.toNat.toUInt8)) ∧ w' = w := Any.strings_IndexByte lays137 s c w
end Go.Proofs.YtadmlifmcdnhnaaDoor

set_option linter.unusedSimpArgs false
set_option linter.unusedVariables false
namespace Go.Proofs.YtadmlifmcdnhnaaDoor
open Go.RowKit

theorem pTake_no (r : Nat) (s : ByteArray) (x : RS) (b : Int) (w : World) (h : PdAt w r s x) (hi : x.i ≤ s.size) (hs : s.size ≤ 200) (hb : Sp.isAt s x.i b = false) :
    Calls Tryd.prog 39 #[.pointer (some ⟨r, 0, none⟩), .int .u8 b] w fun e w' => e = .returned (.bool false) ∧ Upd [r] w w' ∧ PdAt w' r s x :=
  (pTake_any r s x b w h hi hs).mono fun e w' q => by obtain ⟨q1, q2, q3⟩ := q; rw [hb] at q1 q3; exact ⟨q1, q2, q3⟩
theorem pTake_yes (r : Nat) (s : ByteArray) (x : RS) (b : Int) (w : World) (h : PdAt w r s x) (hs : s.size ≤ 200) (hb : Sp.isAt s x.i b = true) :
    Calls Tryd.prog 39 #[.pointer (some ⟨r, 0, none⟩), .int .u8 b] w fun e w' => e = .returned (.bool true) ∧ Upd [r] w w' ∧ PdAt w' r s ⟨x.i + 1, x.e, x.a, x.d, x.t⟩ :=
  (pTake_any r s x b w h (Nat.le_of_lt (Sp.isAt_lt hb)) hs).mono fun e w' q => by obtain ⟨q1, q2, q3⟩ := q; rw [hb] at q1 q3; exact ⟨q1, q2, q3⟩

/-- The signs; those of lists. -/
def sgL : Bool → ByteArray
  | false => ⟨#[92, 40, 41, 91, 93, 123, 125, 42, 43, 63, 124, 46]⟩
  | true => ⟨#[92, 40, 41, 91, 93, 123, 125, 42, 43, 63, 124, 46, 45, 94]⟩
def ixOf (l : Bool) (c : Int) : Int := Lib.indexByte (sgL l).data.toList c.toNat.toUInt8
def isSign (l : Bool) (c : Int) : Bool := if l then Sp.listSign c else Sp.sign c
theorem ix_all (l : Bool) : ((List.range 256).all fun n => decide (ixOf l (n : Int) < 0) == !isSign l (n : Int)) = true := by cases l <;> kernel_rfl
theorem ix_is {l : Bool} {c : Int} (h0 : 0 ≤ c) (h1 : c ≤ 255) : decide (ixOf l c < 0) = !isSign l c := by
  obtain ⟨n, rfl⟩ := Int.eq_ofNat_of_zero_le h0
  have h := ix_all l
  rw [List.all_eq_true] at h
  simpa using h n (List.mem_range.2 (by omega))
theorem ix_any (l : Bool) (c : Int) (w : World) :
    Calls Tryd.prog 42 #[.string (sgL l), .int .u8 c] w fun e w' => e = .returned (.int .i64 (ixOf l c)) ∧ ∃ n, w' = w.drewN n :=
  (indexByte_any (sgL l) c w).mono fun e w' q => ⟨q.1, 0, by rw [q.2]; rfl⟩

set_option maxHeartbeats 800000 in
theorem pEscaped_n (r : Nat) (s : ByteArray) (x : RS) (w : World) (h : PdAt w r s x) (hi : x.i ≤ s.size) (hs : s.size ≤ 200) (hb : Sp.isAt s x.i 110 = true) :
    Calls Tryd.prog 86 #[.pointer (some ⟨r, 0, none⟩)] w (PNumOut .u8 r s x w (Sp.escape s x.i)) := by
  have hh : Hid (PdAt w r s x) := h
  have HB : Hid (Sp.isAt s x.i 110 = true) := hb
  have HR : Hid (Sp.escape s x.i = .ok (10, x.i + 1)) := by
    show _ = _; simp [Sp.isAt] at hb; unfold Sp.escape; rw [if_pos hb.1, if_pos hb.2]
  clear h hb
  go_enter Tryd.func86, Tryd.ntmps86
  go_wp2_with fail
  refine (pTake_yes r s x _ _ (by exact hh.out) hs HB.out).mono ?_
  rintro e w1 ⟨rfl, hu, hf⟩
  go_wp2_with fail
  go_ret2
  exact PNumOut.mk_ok 10 (x.i + 1) HR.out hu rfl hf

set_option maxHeartbeats 800000 in
theorem pEscaped_t (r : Nat) (s : ByteArray) (x : RS) (w : World) (h : PdAt w r s x) (hi : x.i ≤ s.size) (hs : s.size ≤ 200) (hb : Sp.isAt s x.i 116 = true) :
    Calls Tryd.prog 86 #[.pointer (some ⟨r, 0, none⟩)] w (PNumOut .u8 r s x w (Sp.escape s x.i)) := by
  have hh : Hid (PdAt w r s x) := h
  have HB : Hid (Sp.isAt s x.i 116 = true) := hb
  have H1 : Hid (Sp.isAt s x.i 110 = false) := by show _ = _; simp [Sp.isAt] at hb ⊢; intro _; omega
  have HR : Hid (Sp.escape s x.i = .ok (9, x.i + 1)) := by
    show _ = _; simp [Sp.isAt] at hb; unfold Sp.escape; rw [if_pos hb.1, if_neg (by omega), if_pos hb.2]
  clear h hb
  go_enter Tryd.func86, Tryd.ntmps86
  go_wp2_with fail
  refine (pTake_no r s x _ _ (by exact hh.out) hi hs H1.out).mono ?_
  rintro e w1 ⟨rfl, hu, hf⟩
  go_wp2_with fail
  refine (pTake_yes r s x _ _ (by exact hf) hs HB.out).mono ?_
  rintro e w2 ⟨rfl, hu2, hf2⟩
  go_wp2_with fail
  go_ret2
  exact PNumOut.mk_ok 9 (x.i + 1) HR.out (hu.trans hu2) rfl hf2

set_option maxHeartbeats 800000 in
theorem pEscaped_x (r : Nat) (s : ByteArray) (x : RS) (w : World) (h : PdAt w r s x) (hi : x.i ≤ s.size) (hs : s.size ≤ 200) (hb : Sp.isAt s x.i 120 = true) :
    Calls Tryd.prog 86 #[.pointer (some ⟨r, 0, none⟩)] w (PNumOut .u8 r s x w (Sp.escape s x.i)) := by
  have hh : Hid (PdAt w r s x) := h
  have HB : Hid (Sp.isAt s x.i 120 = true) := hb
  have hlt := Sp.isAt_lt hb
  have H1 : Hid (Sp.isAt s x.i 110 = false) := by show _ = _; simp [Sp.isAt] at hb ⊢; intro _; omega
  have H2 : Hid (Sp.isAt s x.i 116 = false) := by show _ = _; simp [Sp.isAt] at hb ⊢; intro _; omega
  have HR : Hid (Sp.escape s x.i = Sp.hexPair s (x.i + 1)) := by
    show _ = _; simp [Sp.isAt] at hb; unfold Sp.escape; rw [if_pos hb.1, if_neg (by omega), if_neg (by omega), if_pos hb.2]
  clear h hb
  go_enter Tryd.func86, Tryd.ntmps86
  go_wp2_with fail
  refine (pTake_no r s x _ _ (by exact hh.out) hi hs H1.out).mono ?_
  rintro e w1 ⟨rfl, hu, hf⟩
  have HU1 : Hid (Upd [r] w w1) := hu
  clear hu
  go_wp2_with fail
  refine (pTake_no r s x _ _ (by exact hf) hi hs H2.out).mono ?_
  rintro e w2 ⟨rfl, hu2, hf2⟩
  have HU2 : Hid (Upd [r] w w2) := HU1.out.trans hu2
  clear hu2
  go_wp2_with fail
  refine (pTake_yes r s x _ _ (by exact hf2) hs HB.out).mono ?_
  rintro e w3 ⟨rfl, hu3, hf3⟩
  have HU3 : Hid (Upd [r] w w3) := HU2.out.trans hu3
  clear hu3
  go_wp2_with fail
  refine (pHexPair_any r s ⟨x.i + 1, x.e, x.a, x.d, x.t⟩ _ (by exact hf3) (by exact hlt) hs).mono ?_
  rintro e w4 ⟨hu4, hq⟩
  have HU4 : Hid (Upd [r] w w4) := HU3.out.trans hu4
  clear hu4 hf hf2 hf3
  revert hq
  cases hr : Sp.hexPair s (x.i + 1) with
  | ok p =>
    obtain ⟨v, j⟩ := p
    rintro ⟨rfl, hf⟩
    have HR' : Hid (Sp.escape s x.i = .ok (v, j)) := HR.out.trans hr
    clear hr
    go_wp2
    go_ret2
    exact PNumOut.mk_ok v j HR'.out HU4.out rfl hf
  | error p =>
    obtain ⟨e1, a1⟩ := p
    rintro ⟨v, i', rfl, hf⟩
    have HR' : Hid (Sp.escape s x.i = .error (e1, a1)) := HR.out.trans hr
    clear hr
    go_wp2
    go_ret2
    exact PNumOut.mk_error e1 a1 v i' HR'.out HU4.out rfl hf

set_option maxHeartbeats 800000 in
theorem pEscaped_end (r : Nat) (s : ByteArray) (x : RS) (w : World) (h : PdAt w r s x) (hi : x.i ≤ s.size) (hs : s.size ≤ 200) (hb : ¬ x.i < s.size) :
    Calls Tryd.prog 86 #[.pointer (some ⟨r, 0, none⟩)] w (PNumOut .u8 r s x w (Sp.escape s x.i)) := by
  have hh : Hid (PdAt w r s x) := h
  have HB : Hid (x.i = s.size) := by show _ = _; omega
  have HR : Hid (Sp.escape s x.i = .error (3, x.i)) := by show _ = _; unfold Sp.escape; rw [if_neg hb]
  clear h
  go_enter Tryd.func86, Tryd.ntmps86
  go_wp2_with fail
  refine (pTake_no r s x _ _ (by exact hh.out) hi hs (isAt_out hb)).mono ?_
  rintro e w1 ⟨rfl, hu, hf⟩
  have HU1 : Hid (Upd [r] w w1) := hu
  clear hu
  go_wp2_with fail
  refine (pTake_no r s x _ _ (by exact hf) hi hs (isAt_out hb)).mono ?_
  rintro e w2 ⟨rfl, hu2, hf2⟩
  have HU2 : Hid (Upd [r] w w2) := HU1.out.trans hu2
  clear hu2
  go_wp2_with fail
  refine (pTake_no r s x _ _ (by exact hf2) hi hs (isAt_out hb)).mono ?_
  rintro e w3 ⟨rfl, hu3, hf3⟩
  have HU3 : Hid (Upd [r] w w3) := HU2.out.trans hu3
  have HF3 : Hid (PdAt w3 r s x) := hf3
  obtain ⟨c0, c1, c2, c3, c4, c5, fz⟩ := HF3.out.facts
  clear hu3 hf hf2 hf3
  go_wp2_with fail
  go_quiet ((go_at_call 26; exact Calls.quiet_of (pAtEnd_yes r s x _ HF3.out HB.out)))
  go_wp2_with fail
  refine (pRefuse_any r s x _ _ _ (by exact HF3.out)).mono ?_
  rintro e w4 ⟨rfl, hu4, hf4⟩
  go_wp2_with fail
  go_ret2
  exact PNumOut.mk_error _ _ 0 x.i HR.out ((HU3.out.trans (drewN_upd _ _ _)).trans hu4) rfl hf4

set_option maxHeartbeats 800000 in
theorem pEscaped_other (r : Nat) (s : ByteArray) (x : RS) (w : World) (h : PdAt w r s x) (hi : x.i < s.size) (hs : s.size ≤ 200) (h1 : Sp.isAt s x.i 110 = false) (h2 : Sp.isAt s x.i 116 = false) (h3 : Sp.isAt s x.i 120 = false) :
    Calls Tryd.prog 86 #[.pointer (some ⟨r, 0, none⟩)] w (PNumOut .u8 r s x w (Sp.escape s x.i)) := by
  have hh : Hid (PdAt w r s x) := h
  have H1 : Hid (Sp.isAt s x.i 110 = false) := h1
  have H2 : Hid (Sp.isAt s x.i 116 = false) := h2
  have H3 : Hid (Sp.isAt s x.i 120 = false) := h3
  have hi' := Nat.le_of_lt hi
  have HB : Hid (Sp.byteAt s x.i = (s[x.i].toNat : Int)) := Sp.byteAt_in s x.i hi
  have HR : Hid (Sp.escape s x.i = if Sp.listSign (Sp.byteAt s x.i) then .ok (Sp.byteAt s x.i, x.i + 1) else .error (3, x.i)) := by
    show _ = _; rw [isAt_ok hi] at h1 h2 h3; simp at h1 h2 h3; unfold Sp.escape; rw [if_pos hi, if_neg h1, if_neg h2, if_neg h3]
  clear h h1 h2 h3
  go_enter Tryd.func86, Tryd.ntmps86
  go_wp2_with fail
  refine (pTake_no r s x _ _ (by exact hh.out) hi' hs H1.out).mono ?_
  rintro e w1 ⟨rfl, hu, hf⟩
  have HU1 : Hid (Upd [r] w w1) := hu
  clear hu
  go_wp2_with fail
  refine (pTake_no r s x _ _ (by exact hf) hi' hs H2.out).mono ?_
  rintro e w2 ⟨rfl, hu2, hf2⟩
  have HU2 : Hid (Upd [r] w w2) := HU1.out.trans hu2
  clear hu2
  go_wp2_with fail
  refine (pTake_no r s x _ _ (by exact hf2) hi' hs H3.out).mono ?_
  rintro e w3 ⟨rfl, hu3, hf3⟩
  have HU3 : Hid (Upd [r] w w3) := HU2.out.trans hu3
  have HF3 : Hid (PdAt w3 r s x) := hf3
  obtain ⟨c0, c1, c2, c3, c4, c5, fz⟩ := HF3.out.facts
  clear hu3 hf hf2 hf3
  cases hl : Sp.listSign (Sp.byteAt s x.i) with
  | false =>
    have hx : ixOf true (s[x.i].toNat : Int) < 0 := by
      have := ix_is (l := true) (c := (s[x.i].toNat : Int)) (by omega) (by have := s[x.i].toNat_lt; omega)
      rw [← HB.out, show isSign true (Sp.byteAt s x.i) = false from hl, HB.out] at this; simpa using this
    have HR' : Hid (Sp.escape s x.i = .error (3, x.i)) := by show _ = _; rw [HR.out, hl]; rfl
    clear hl
    go_wp2_with fail
    go_quiet (first | (go_at_call 26; exact Calls.quiet_of (pAtEnd_no r s x _ HF3.out hi)) | (go_at_call 42; exact Calls.quiet_of (ix_any true _ _)))
    go_wp2_with fail
    refine (pRefuse_any r s x _ _ _ (by exact HF3.out)).mono ?_
    rintro e w4 ⟨rfl, hu4, hf4⟩
    go_wp2_with fail
    go_ret2
    exact PNumOut.mk_error _ _ 0 x.i HR'.out ((HU3.out.trans (drewN_upd _ _ _)).trans hu4) rfl hf4
  | true =>
    have hx : ¬ ixOf true (s[x.i].toNat : Int) < 0 := by
      have := ix_is (l := true) (c := (s[x.i].toNat : Int)) (by omega) (by have := s[x.i].toNat_lt; omega)
      rw [← HB.out, show isSign true (Sp.byteAt s x.i) = true from hl, HB.out] at this; simpa using this
    have HR' : Hid (Sp.escape s x.i = .ok ((s[x.i].toNat : Int), x.i + 1)) := by show _ = _; rw [HR.out, hl, HB.out]; rfl
    clear hl
    go_wp2_with fail
    go_quiet (first | (go_at_call 26; exact Calls.quiet_of (pAtEnd_no r s x _ HF3.out hi)) | (go_at_call 42; exact Calls.quiet_of (ix_any true _ _)))
    go_wp2_with fail
    go_quiet (fail)
    go_wp2_with fail
    go_ret2
    exact PNumOut.mk_ok _ (x.i + 1) HR'.out (by refine HU3.out.trans ?_; (repeat (first | exact Upd.refl _ _ | refine Upd.drewN ?_ | refine Upd.drew ?_ | refine Upd.setCell ?_ (by simp) _ | refine Upd.alloc ?_ _))) rfl (HF3.out.set1 (x.i + 1))

theorem pEscaped_any (r : Nat) (s : ByteArray) (x : RS) (w : World) (h : PdAt w r s x) (hi : x.i ≤ s.size) (hs : s.size ≤ 200) :
    Calls Tryd.prog 86 #[.pointer (some ⟨r, 0, none⟩)] w (PNumOut .u8 r s x w (Sp.escape s x.i)) := by
  by_cases hlt : x.i < s.size
  · cases h1 : Sp.isAt s x.i 110 with
    | true => exact pEscaped_n r s x w h hi hs h1
    | false => cases h2 : Sp.isAt s x.i 116 with
      | true => exact pEscaped_t r s x w h hi hs h2
      | false => cases h3 : Sp.isAt s x.i 120 with
        | true => exact pEscaped_x r s x w h hi hs h3
        | false => exact pEscaped_other r s x w h hlt hs h1 h2 h3
  · exact pEscaped_end r s x w h hi hs hlt
end Go.Proofs.YtadmlifmcdnhnaaDoor
