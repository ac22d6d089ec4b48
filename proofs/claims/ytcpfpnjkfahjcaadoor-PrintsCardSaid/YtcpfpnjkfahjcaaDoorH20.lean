import Derived.Test.YtcpfpnjkfahjcaaDoorH19
set_option linter.unusedSimpArgs false
set_option linter.unusedVariables false
namespace Go.Proofs.YtcpfpnjkfahjcaaDoor
open Go.RowKit

theorem atV_in {s : ByteArray} {x : RS} (h : atB s x = true) : atV s x = Sp.byteAt s x.i := if_pos h
theorem atV_out {s : ByteArray} {x : RS} (h : atB s x = false) : atV s x = 0 := by unfold atV; rw [h]; rfl
theorem atV_lo (s : ByteArray) (x : RS) : 0 ≤ atV s x := by unfold atV; split; exact Sp.byteAt_lo _ _; omega
theorem atV_hi (s : ByteArray) (x : RS) : atV s x ≤ 255 := by unfold atV; split; exact Sp.byteAt_hi _ _; omega
theorem atB_ok {s : ByteArray} {x : RS} (he : x.e = 0) : atB s x = decide (x.i < s.size) := by simp [atB, he]

/-- What a call that reads a byte leaves. -/
def ByteOut (r : Nat) (s : ByteArray) (x : RS) (w : World) (res : Sp.Res (Int × Nat)) (k : Ending) (w' : World) : Prop :=
  Upd [r] w w' ∧ match res with
  | .ok (v, j) => k = .returned (.int .u8 v) ∧ RdAt w' r s { x with i := j }
  | .error (e, a) => ∃ v i', 0 ≤ v ∧ v ≤ 255 ∧ k = .returned (.int .u8 v) ∧ RdAt w' r s { x with i := i', e := e, a := a }

theorem ByteOut.mk_ok {r : Nat} {s : ByteArray} {x : RS} {w w' : World} {res : Sp.Res (Int × Nat)} {k : Ending} (v : Int) (j : Nat) (h : res = .ok (v, j)) (u : Upd [r] w w') (hk : k = .returned (.int .u8 v)) (hr : RdAt w' r s { x with i := j }) : ByteOut r s x w res k w' := by
  subst h; exact ⟨u, hk, hr⟩
theorem ByteOut.mk_error {r : Nat} {s : ByteArray} {x : RS} {w w' : World} {res : Sp.Res (Int × Nat)} {k : Ending} (e a : Int) (v : Int) (i' : Nat) (h : res = .error (e, a)) (u : Upd [r] w w') (h0 : 0 ≤ v) (h1 : v ≤ 255) (hk : k = .returned (.int .u8 v)) (hr : RdAt w' r s { x with i := i', e := e, a := a }) : ByteOut r s x w res k w' := by
  subst h; exact ⟨u, v, i', h0, h1, hk, hr⟩

set_option maxHeartbeats 400000 in
theorem escape_end (r : Nat) (s : ByteArray) (x : RS) (w : World) (h : RdAt w r s x) (hs : s.size ≤ 200) (he : x.e = 0) (hi : ¬ x.i < s.size) :
    Calls Tryd.prog 62 #[.pointer (some ⟨r, 0, none⟩)] w (ByteOut r s x w (Sp.escape s x.i)) := by
  obtain ⟨c0, c1, c2, c3, c4, c5, fz⟩ := h.facts
  have hh : Hid (RdAt w r s x) := h
  have HE : Hid (x.e = 0) := he
  have HR : Hid (Sp.escape s x.i = .error (3, x.i)) := by show _ = _; unfold Sp.escape; rw [if_neg hi]
  have hB : atB s x = false := by rw [atB_ok he]; simpa using hi
  clear h he
  go_enter Tryd.func62, Tryd.ntmps62
  go_wp2_with (first | (go_at_call 50; refine (at_any r s x _ (by exact hh.out) hs).mono ?_; rintro e w' ⟨rfl, n, rfl⟩) | (go_at_call 51; refine (sign_any _ _).mono ?_; rintro e w' ⟨rfl, rfl⟩) | (go_at_call 18; refine (fail_any r s x _ _ _ (by exact hh.out)).mono ?_; rintro e w' ⟨rfl, hu, hf⟩))
  go_ret
  exact ByteOut.mk_error _ _ 0 x.i HR.out ((drewN_upd _ _ _).trans hu) (by omega) (by omega) rfl (by rw [RS.fail_ok HE.out] at hf; exact hf)

set_option maxHeartbeats 400000 in
theorem escape_n (r : Nat) (s : ByteArray) (x : RS) (w : World) (h : RdAt w r s x) (hs : s.size ≤ 200) (he : x.e = 0) (hi : x.i < s.size) (hv : Sp.byteAt s x.i = 110) :
    Calls Tryd.prog 62 #[.pointer (some ⟨r, 0, none⟩)] w (ByteOut r s x w (Sp.escape s x.i)) := by
  obtain ⟨c0, c1, c2, c3, c4, c5, fz⟩ := h.facts
  have hh : Hid (RdAt w r s x) := h
  have HE : Hid (x.e = 0) := he
  have HR : Hid (Sp.escape s x.i = .ok (10, x.i + 1)) := by show _ = _; unfold Sp.escape; rw [if_pos hi]; simp [hv]
  have hB : atB s x = true := by rw [atB_ok he]; simpa using hi
  have hV : atV s x = 110 := by rw [atV_in hB]; exact hv
  clear h he hv
  go_enter Tryd.func62, Tryd.ntmps62
  go_wp2_with (first | (go_at_call 50; refine (at_any r s x _ (by exact hh.out) hs).mono ?_; rintro e w' ⟨rfl, n, rfl⟩) | (go_at_call 51; refine (sign_any _ _).mono ?_; rintro e w' ⟨rfl, rfl⟩) | (go_at_call 18; refine (fail_any r s x _ _ _ (by exact hh.out)).mono ?_; rintro e w' ⟨rfl, hu, hf⟩))
  go_ret
  exact ByteOut.mk_ok 10 (x.i + 1) HR.out ((drewN_upd _ _ _).setCell (by simp) _) rfl (hh.out.set1 (x.i + 1))

set_option maxHeartbeats 400000 in
theorem escape_t (r : Nat) (s : ByteArray) (x : RS) (w : World) (h : RdAt w r s x) (hs : s.size ≤ 200) (he : x.e = 0) (hi : x.i < s.size) (hv : Sp.byteAt s x.i = 116) :
    Calls Tryd.prog 62 #[.pointer (some ⟨r, 0, none⟩)] w (ByteOut r s x w (Sp.escape s x.i)) := by
  obtain ⟨c0, c1, c2, c3, c4, c5, fz⟩ := h.facts
  have hh : Hid (RdAt w r s x) := h
  have HE : Hid (x.e = 0) := he
  have HR : Hid (Sp.escape s x.i = .ok (9, x.i + 1)) := by show _ = _; unfold Sp.escape; rw [if_pos hi]; simp [hv]
  have hB : atB s x = true := by rw [atB_ok he]; simpa using hi
  have hV : atV s x = 116 := by rw [atV_in hB]; exact hv
  clear h he hv
  go_enter Tryd.func62, Tryd.ntmps62
  go_wp2_with (first | (go_at_call 50; refine (at_any r s x _ (by exact hh.out) hs).mono ?_; rintro e w' ⟨rfl, n, rfl⟩) | (go_at_call 51; refine (sign_any _ _).mono ?_; rintro e w' ⟨rfl, rfl⟩) | (go_at_call 18; refine (fail_any r s x _ _ _ (by exact hh.out)).mono ?_; rintro e w' ⟨rfl, hu, hf⟩))
  go_ret
  exact ByteOut.mk_ok 9 (x.i + 1) HR.out ((drewN_upd _ _ _).setCell (by simp) _) rfl (hh.out.set1 (x.i + 1))

set_option maxHeartbeats 400000 in
theorem escape_sign (r : Nat) (s : ByteArray) (x : RS) (w : World) (h : RdAt w r s x) (hs : s.size ≤ 200) (he : x.e = 0) (hi : x.i < s.size) (h1 : Sp.byteAt s x.i ≠ 110) (h2 : Sp.byteAt s x.i ≠ 116) (h3 : Sp.byteAt s x.i ≠ 120) (hv : Sp.listSign (Sp.byteAt s x.i) = true) :
    Calls Tryd.prog 62 #[.pointer (some ⟨r, 0, none⟩)] w (ByteOut r s x w (Sp.escape s x.i)) := by
  obtain ⟨c0, c1, c2, c3, c4, c5, fz⟩ := h.facts
  have hh : Hid (RdAt w r s x) := h
  have HE : Hid (x.e = 0) := he
  have HR : Hid (Sp.escape s x.i = .ok (Sp.byteAt s x.i, x.i + 1)) := by show _ = _; unfold Sp.escape; rw [if_pos hi]; simp [h1, h2, h3, hv]
  have hB : atB s x = true := by rw [atB_ok he]; simpa using hi
  have HV : Hid (atV s x = Sp.byteAt s x.i) := atV_in hB
  have g1 : (atV s x == 110) = false := by rw [HV.out]; simpa using h1
  have g2 : (atV s x == 116) = false := by rw [HV.out]; simpa using h2
  have g3 : (atV s x == 120) = false := by rw [HV.out]; simpa using h3
  have g4 : Hid (¬ (Sp.sign (atV s x) = false ∧ (atV s x != 45) = true ∧ (atV s x != 94) = true)) := by
    show ¬ _; rw [HV.out]; unfold Sp.listSign at hv; intro ⟨a, b, c⟩; simp at b c; simp [a, b, c] at hv
  clear h he hv h1 h2 h3
  go_enter Tryd.func62, Tryd.ntmps62
  go_wp2_with (first | (go_at_call 50; refine (at_any r s x _ (by exact hh.out) hs).mono ?_; rintro e w' ⟨rfl, n, rfl⟩) | (go_at_call 51; refine (sign_any _ _).mono ?_; rintro e w' ⟨rfl, rfl⟩) | (go_at_call 18; refine (fail_any r s x _ _ _ (by exact hh.out)).mono ?_; rintro e w' ⟨rfl, hu, hf⟩))
  · go_ret
    exact ByteOut.mk_ok _ (x.i + 1) HR.out ((drewN_upd _ _ _).setCell (by simp) _) (ret_int (by have := HV.out; omega)) (hh.out.set1 (x.i + 1))
  · go_ret
    exact ByteOut.mk_ok _ (x.i + 1) HR.out ((drewN_upd _ _ _).setCell (by simp) _) (ret_int (by have := HV.out; omega)) (hh.out.set1 (x.i + 1))
  · rename_i q1 _ q2
    exact absurd ⟨by simpa using q1, q2⟩ g4.out
  · go_ret
    exact ByteOut.mk_ok _ (x.i + 1) HR.out ((drewN_upd _ _ _).setCell (by simp) _) (ret_int (by have := HV.out; omega)) (hh.out.set1 (x.i + 1))

set_option maxHeartbeats 400000 in
theorem escape_no (r : Nat) (s : ByteArray) (x : RS) (w : World) (h : RdAt w r s x) (hs : s.size ≤ 200) (he : x.e = 0) (hi : x.i < s.size) (h1 : Sp.byteAt s x.i ≠ 110) (h2 : Sp.byteAt s x.i ≠ 116) (h3 : Sp.byteAt s x.i ≠ 120) (hv : Sp.listSign (Sp.byteAt s x.i) = false) :
    Calls Tryd.prog 62 #[.pointer (some ⟨r, 0, none⟩)] w (ByteOut r s x w (Sp.escape s x.i)) := by
  obtain ⟨c0, c1, c2, c3, c4, c5, fz⟩ := h.facts
  have hh : Hid (RdAt w r s x) := h
  have HE : Hid (x.e = 0) := he
  have HR : Hid (Sp.escape s x.i = .error (3, x.i)) := by show _ = _; unfold Sp.escape; rw [if_pos hi]; simp [h1, h2, h3, hv]
  have hB : atB s x = true := by rw [atB_ok he]; simpa using hi
  have HV : Hid (atV s x = Sp.byteAt s x.i) := atV_in hB
  have g1 : (atV s x == 110) = false := by rw [HV.out]; simpa using h1
  have g2 : (atV s x == 116) = false := by rw [HV.out]; simpa using h2
  have g3 : (atV s x == 120) = false := by rw [HV.out]; simpa using h3
  have g4 : Sp.sign (atV s x) = false := by rw [HV.out]; unfold Sp.listSign at hv; simp at hv; exact hv.1.1
  have g5 : (atV s x != 45) = true := by rw [HV.out]; unfold Sp.listSign at hv; simp at hv; simpa using hv.1.2
  have g6 : (atV s x != 94) = true := by rw [HV.out]; unfold Sp.listSign at hv; simp at hv; simpa using hv.2
  clear h he hv h1 h2 h3
  go_enter Tryd.func62, Tryd.ntmps62
  go_wp2_with (first | (go_at_call 50; refine (at_any r s x _ (by exact hh.out) hs).mono ?_; rintro e w' ⟨rfl, n, rfl⟩) | (go_at_call 51; refine (sign_any _ _).mono ?_; rintro e w' ⟨rfl, rfl⟩) | (go_at_call 18; refine (fail_any r s x _ _ _ (by exact hh.out)).mono ?_; rintro e w' ⟨rfl, hu, hf⟩))
  go_ret
  exact ByteOut.mk_error _ _ 0 x.i HR.out ((drewN_upd _ _ _).trans hu) (by omega) (by omega) rfl (by rw [RS.fail_ok HE.out] at hf; exact hf)

theorem escape_is (s : ByteArray) (i : Nat) (hi : i < s.size) (hv : Sp.byteAt s i = 120) : Sp.escape s i = Sp.hexPair s (i + 1) := by
  unfold Sp.escape; rw [if_pos hi]; simp [hv]
theorem hexPair_1 (s : ByteArray) (i : Nat) (h : ¬ (i < s.size ∧ 0 ≤ Sp.hex (Sp.byteAt s i))) : Sp.hexPair s i = .error (3, i) := if_neg h
theorem hexPair_2 (s : ByteArray) (i : Nat) (h : i < s.size ∧ 0 ≤ Sp.hex (Sp.byteAt s i)) (g : ¬ (i + 1 < s.size ∧ 0 ≤ Sp.hex (Sp.byteAt s (i + 1)))) : Sp.hexPair s i = .error (3, (i + 1 : Nat)) := by
  unfold Sp.hexPair; rw [if_pos h, if_neg g]
theorem hexPair_3 (s : ByteArray) (i : Nat) (h : i < s.size ∧ 0 ≤ Sp.hex (Sp.byteAt s i)) (g : i + 1 < s.size ∧ 0 ≤ Sp.hex (Sp.byteAt s (i + 1))) : Sp.hexPair s i = .ok (16 * Sp.hex (Sp.byteAt s i) + Sp.hex (Sp.byteAt s (i + 1)), i + 2) := by
  unfold Sp.hexPair; rw [if_pos h, if_pos g]

set_option maxHeartbeats 400000 in
theorem escape_x1a (r : Nat) (s : ByteArray) (x : RS) (w : World) (h : RdAt w r s x) (hs : s.size ≤ 200) (he : x.e = 0) (hi : x.i < s.size) (hv : Sp.byteAt s x.i = 120) (g : ¬ x.i + 1 < s.size) :
    Calls Tryd.prog 62 #[.pointer (some ⟨r, 0, none⟩)] w (ByteOut r s x w (Sp.escape s x.i)) := by
  obtain ⟨c0, c1, c2, c3, c4, c5, fz⟩ := h.facts
  have hh : Hid (RdAt w r s x) := h
  have HE : Hid (x.e = 0) := he
  have HR : Hid (Sp.escape s x.i = .error (3, (x.i + 1 : Nat))) := (escape_is s x.i hi hv).trans (hexPair_1 _ _ (fun q => g q.1))
  have hB : atB s x = true := by rw [atB_ok he]; simpa using hi
  have hV : atV s x = 120 := by rw [atV_in hB]; exact hv
  have hB1 : atB s (⟨x.i + 1, x.e, x.a, x.d, x.t⟩ : RS) = false := by rw [atB_ok (by exact he)]; simpa using g
  clear h hv he
  go_enter Tryd.func62, Tryd.ntmps62
  go_wp2_with (first | (go_at_call 50; refine (at_any r s x _ (by exact hh.out) hs).mono ?_; rintro e w' ⟨rfl, n, rfl⟩) | (go_at_call 51; refine (sign_any _ _).mono ?_; rintro e w' ⟨rfl, rfl⟩))
  refine wp_loop_rounds 3 ?_
  rw [rounds_succ]
  go_wp2_with fail
  refine (at_any r s (⟨x.i + 1, x.e, x.a, x.d, x.t⟩ : RS) _ (by exact hh.out.set1 (x.i + 1)) hs).mono ?_
  rintro e w' ⟨rfl, n1, rfl⟩
  go_wp2_with fail
  refine (hex_any _ _ (atV_lo _ _) (atV_hi _ _)).mono ?_
  rintro e w' ⟨rfl, rfl⟩
  go_wp2_with fail
  refine (fail_any r s (⟨x.i + 1, x.e, x.a, x.d, x.t⟩ : RS) _ _ _ (by exact hh.out.set1 (x.i + 1))).mono ?_
  rintro e w' ⟨rfl, hu, hf⟩
  go_wp2_with fail
  go_ret
  exact ByteOut.mk_error _ _ 0 (x.i + 1) HR.out (((drewN_upd [r] w _).setCell (p := ⟨r, 1, none⟩) (by simp) _).trans hu.pre) (by omega) (by omega) rfl (by rw [RS.fail_ok (by exact HE.out)] at hf; exact hf)

set_option maxHeartbeats 400000 in
theorem escape_x1b (r : Nat) (s : ByteArray) (x : RS) (w : World) (h : RdAt w r s x) (hs : s.size ≤ 200) (he : x.e = 0) (hi : x.i < s.size) (hv : Sp.byteAt s x.i = 120) (g : x.i + 1 < s.size) (g1 : ¬ 0 ≤ Sp.hex (Sp.byteAt s (x.i + 1))) :
    Calls Tryd.prog 62 #[.pointer (some ⟨r, 0, none⟩)] w (ByteOut r s x w (Sp.escape s x.i)) := by
  obtain ⟨c0, c1, c2, c3, c4, c5, fz⟩ := h.facts
  have hh : Hid (RdAt w r s x) := h
  have HE : Hid (x.e = 0) := he
  have HR : Hid (Sp.escape s x.i = .error (3, (x.i + 1 : Nat))) := (escape_is s x.i hi hv).trans (hexPair_1 _ _ (fun q => g1 q.2))
  have hB : atB s x = true := by rw [atB_ok he]; simpa using hi
  have hV : atV s x = 120 := by rw [atV_in hB]; exact hv
  have hB1 : atB s (⟨x.i + 1, x.e, x.a, x.d, x.t⟩ : RS) = true := by rw [atB_ok (by exact he)]; simpa using g
  have HV1 : Hid (atV s (⟨x.i + 1, x.e, x.a, x.d, x.t⟩ : RS) = Sp.byteAt s (x.i + 1)) := atV_in hB1
  have g2 : decide (Sp.hex (atV s (⟨x.i + 1, x.e, x.a, x.d, x.t⟩ : RS)) < 0) = true := by rw [HV1.out]; simp; omega
  clear h hv he
  go_enter Tryd.func62, Tryd.ntmps62
  go_wp2_with (first | (go_at_call 50; refine (at_any r s x _ (by exact hh.out) hs).mono ?_; rintro e w' ⟨rfl, n, rfl⟩) | (go_at_call 51; refine (sign_any _ _).mono ?_; rintro e w' ⟨rfl, rfl⟩))
  refine wp_loop_rounds 3 ?_
  rw [rounds_succ]
  go_wp2_with fail
  refine (at_any r s (⟨x.i + 1, x.e, x.a, x.d, x.t⟩ : RS) _ (by exact hh.out.set1 (x.i + 1)) hs).mono ?_
  rintro e w' ⟨rfl, n1, rfl⟩
  go_wp2_with fail
  refine (hex_any _ _ (atV_lo _ _) (atV_hi _ _)).mono ?_
  rintro e w' ⟨rfl, rfl⟩
  go_wp2_with fail
  refine (fail_any r s (⟨x.i + 1, x.e, x.a, x.d, x.t⟩ : RS) _ _ _ (by exact hh.out.set1 (x.i + 1))).mono ?_
  rintro e w' ⟨rfl, hu, hf⟩
  go_wp2_with fail
  go_ret
  exact ByteOut.mk_error _ _ 0 (x.i + 1) HR.out (((drewN_upd [r] w _).setCell (p := ⟨r, 1, none⟩) (by simp) _).trans hu.pre) (by omega) (by omega) rfl (by rw [RS.fail_ok (by exact HE.out)] at hf; exact hf)

set_option maxHeartbeats 400000 in
theorem escape_x2a (r : Nat) (s : ByteArray) (x : RS) (w : World) (h : RdAt w r s x) (hs : s.size ≤ 200) (he : x.e = 0) (hi : x.i < s.size) (hv : Sp.byteAt s x.i = 120) (g : x.i + 1 < s.size) (g1 : 0 ≤ Sp.hex (Sp.byteAt s (x.i + 1))) (k : ¬ x.i + 1 + 1 < s.size) :
    Calls Tryd.prog 62 #[.pointer (some ⟨r, 0, none⟩)] w (ByteOut r s x w (Sp.escape s x.i)) := by
  obtain ⟨c0, c1, c2, c3, c4, c5, fz⟩ := h.facts
  have hh : Hid (RdAt w r s x) := h
  have HE : Hid (x.e = 0) := he
  have HR : Hid (Sp.escape s x.i = .error (3, (x.i + 1 + 1 : Nat))) := (escape_is s x.i hi hv).trans (hexPair_2 _ _ ⟨g, g1⟩ (fun q => k q.1))
  have hB : atB s x = true := by rw [atB_ok he]; simpa using hi
  have hV : atV s x = 120 := by rw [atV_in hB]; exact hv
  have hB1 : atB s (⟨x.i + 1, x.e, x.a, x.d, x.t⟩ : RS) = true := by rw [atB_ok (by exact he)]; simpa using g
  have HV1 : Hid (atV s (⟨x.i + 1, x.e, x.a, x.d, x.t⟩ : RS) = Sp.byteAt s (x.i + 1)) := atV_in hB1
  have g2 : 0 ≤ Sp.hex (atV s (⟨x.i + 1, x.e, x.a, x.d, x.t⟩ : RS)) := by rw [HV1.out]; exact g1
  have g3 := hex_hi (atV s (⟨x.i + 1, x.e, x.a, x.d, x.t⟩ : RS))
  have hB2 : atB s (⟨x.i + 1 + 1, x.e, x.a, x.d, x.t⟩ : RS) = false := by rw [atB_ok (by exact he)]; simpa using k
  clear h hv he
  go_enter Tryd.func62, Tryd.ntmps62
  go_wp2_with (first | (go_at_call 50; refine (at_any r s x _ (by exact hh.out) hs).mono ?_; rintro e w' ⟨rfl, n, rfl⟩) | (go_at_call 51; refine (sign_any _ _).mono ?_; rintro e w' ⟨rfl, rfl⟩))
  refine wp_loop_rounds 3 ?_
  rw [rounds_succ]
  go_wp2_with fail
  refine (at_any r s (⟨x.i + 1, x.e, x.a, x.d, x.t⟩ : RS) _ (by exact hh.out.set1 (x.i + 1)) hs).mono ?_
  rintro e w' ⟨rfl, n1, rfl⟩
  go_wp2_with fail
  refine (hex_any _ _ (atV_lo _ _) (atV_hi _ _)).mono ?_
  rintro e w' ⟨rfl, rfl⟩
  go_wp2_with fail
  rw [rounds_succ]
  go_wp2_with fail
  refine (at_any r s (⟨x.i + 1 + 1, x.e, x.a, x.d, x.t⟩ : RS) _ (by exact (hh.out.set1 (x.i + 1)).set1 (x.i + 1 + 1)) hs).mono ?_
  rintro e w' ⟨rfl, n2, rfl⟩
  go_wp2_with fail
  refine (hex_any _ _ (atV_lo _ _) (atV_hi _ _)).mono ?_
  rintro e w' ⟨rfl, rfl⟩
  go_wp2_with fail
  refine (fail_any r s (⟨x.i + 1 + 1, x.e, x.a, x.d, x.t⟩ : RS) _ _ _ (by exact (hh.out.set1 (x.i + 1)).set1 (x.i + 1 + 1))).mono ?_
  rintro e w' ⟨rfl, hu, hf⟩
  go_wp2_with fail
  go_ret
  exact ByteOut.mk_error _ _ 0 (x.i + 1 + 1) HR.out (by refine Upd.trans ?_ hu.pre; (repeat (first | exact Upd.refl _ _ | refine Upd.drewN ?_ | refine Upd.drew ?_ | refine Upd.setCell ?_ (by simp) _ | refine Upd.alloc ?_ _))) (by omega) (by omega) rfl (by rw [RS.fail_ok (by exact HE.out)] at hf; exact hf)

set_option maxHeartbeats 400000 in
theorem escape_x2b (r : Nat) (s : ByteArray) (x : RS) (w : World) (h : RdAt w r s x) (hs : s.size ≤ 200) (he : x.e = 0) (hi : x.i < s.size) (hv : Sp.byteAt s x.i = 120) (g : x.i + 1 < s.size) (g1 : 0 ≤ Sp.hex (Sp.byteAt s (x.i + 1))) (k : x.i + 1 + 1 < s.size) (k1 : ¬ 0 ≤ Sp.hex (Sp.byteAt s (x.i + 1 + 1))) :
    Calls Tryd.prog 62 #[.pointer (some ⟨r, 0, none⟩)] w (ByteOut r s x w (Sp.escape s x.i)) := by
  obtain ⟨c0, c1, c2, c3, c4, c5, fz⟩ := h.facts
  have hh : Hid (RdAt w r s x) := h
  have HE : Hid (x.e = 0) := he
  have HR : Hid (Sp.escape s x.i = .error (3, (x.i + 1 + 1 : Nat))) := (escape_is s x.i hi hv).trans (hexPair_2 _ _ ⟨g, g1⟩ (fun q => k1 q.2))
  have hB : atB s x = true := by rw [atB_ok he]; simpa using hi
  have hV : atV s x = 120 := by rw [atV_in hB]; exact hv
  have hB1 : atB s (⟨x.i + 1, x.e, x.a, x.d, x.t⟩ : RS) = true := by rw [atB_ok (by exact he)]; simpa using g
  have HV1 : Hid (atV s (⟨x.i + 1, x.e, x.a, x.d, x.t⟩ : RS) = Sp.byteAt s (x.i + 1)) := atV_in hB1
  have g2 : 0 ≤ Sp.hex (atV s (⟨x.i + 1, x.e, x.a, x.d, x.t⟩ : RS)) := by rw [HV1.out]; exact g1
  have g3 := hex_hi (atV s (⟨x.i + 1, x.e, x.a, x.d, x.t⟩ : RS))
  have hB2 : atB s (⟨x.i + 1 + 1, x.e, x.a, x.d, x.t⟩ : RS) = true := by rw [atB_ok (by exact he)]; simpa using k
  have HV2 : Hid (atV s (⟨x.i + 1 + 1, x.e, x.a, x.d, x.t⟩ : RS) = Sp.byteAt s (x.i + 1 + 1)) := atV_in hB2
  have g4 : decide (Sp.hex (atV s (⟨x.i + 1 + 1, x.e, x.a, x.d, x.t⟩ : RS)) < 0) = true := by rw [HV2.out]; simp; omega
  clear h hv he
  go_enter Tryd.func62, Tryd.ntmps62
  go_wp2_with (first | (go_at_call 50; refine (at_any r s x _ (by exact hh.out) hs).mono ?_; rintro e w' ⟨rfl, n, rfl⟩) | (go_at_call 51; refine (sign_any _ _).mono ?_; rintro e w' ⟨rfl, rfl⟩))
  refine wp_loop_rounds 3 ?_
  rw [rounds_succ]
  go_wp2_with fail
  refine (at_any r s (⟨x.i + 1, x.e, x.a, x.d, x.t⟩ : RS) _ (by exact hh.out.set1 (x.i + 1)) hs).mono ?_
  rintro e w' ⟨rfl, n1, rfl⟩
  go_wp2_with fail
  refine (hex_any _ _ (atV_lo _ _) (atV_hi _ _)).mono ?_
  rintro e w' ⟨rfl, rfl⟩
  go_wp2_with fail
  rw [rounds_succ]
  go_wp2_with fail
  refine (at_any r s (⟨x.i + 1 + 1, x.e, x.a, x.d, x.t⟩ : RS) _ (by exact (hh.out.set1 (x.i + 1)).set1 (x.i + 1 + 1)) hs).mono ?_
  rintro e w' ⟨rfl, n2, rfl⟩
  go_wp2_with fail
  refine (hex_any _ _ (atV_lo _ _) (atV_hi _ _)).mono ?_
  rintro e w' ⟨rfl, rfl⟩
  go_wp2_with fail
  refine (fail_any r s (⟨x.i + 1 + 1, x.e, x.a, x.d, x.t⟩ : RS) _ _ _ (by exact (hh.out.set1 (x.i + 1)).set1 (x.i + 1 + 1))).mono ?_
  rintro e w' ⟨rfl, hu, hf⟩
  go_wp2_with fail
  go_ret
  exact ByteOut.mk_error _ _ 0 (x.i + 1 + 1) HR.out (by refine Upd.trans ?_ hu.pre; (repeat (first | exact Upd.refl _ _ | refine Upd.drewN ?_ | refine Upd.drew ?_ | refine Upd.setCell ?_ (by simp) _ | refine Upd.alloc ?_ _))) (by omega) (by omega) rfl (by rw [RS.fail_ok (by exact HE.out)] at hf; exact hf)

set_option maxHeartbeats 400000 in
theorem escape_x3 (r : Nat) (s : ByteArray) (x : RS) (w : World) (h : RdAt w r s x) (hs : s.size ≤ 200) (he : x.e = 0) (hi : x.i < s.size) (hv : Sp.byteAt s x.i = 120) (g : x.i + 1 < s.size) (g1 : 0 ≤ Sp.hex (Sp.byteAt s (x.i + 1))) (k : x.i + 1 + 1 < s.size) (k1 : 0 ≤ Sp.hex (Sp.byteAt s (x.i + 1 + 1))) :
    Calls Tryd.prog 62 #[.pointer (some ⟨r, 0, none⟩)] w (ByteOut r s x w (Sp.escape s x.i)) := by
  obtain ⟨c0, c1, c2, c3, c4, c5, fz⟩ := h.facts
  have hh : Hid (RdAt w r s x) := h
  have HE : Hid (x.e = 0) := he
  have HR : Hid (Sp.escape s x.i = .ok (16 * Sp.hex (Sp.byteAt s (x.i + 1)) + Sp.hex (Sp.byteAt s (x.i + 1 + 1)), x.i + 1 + 2)) := (escape_is s x.i hi hv).trans (hexPair_3 _ _ ⟨g, g1⟩ ⟨k, k1⟩)
  have hB : atB s x = true := by rw [atB_ok he]; simpa using hi
  have hV : atV s x = 120 := by rw [atV_in hB]; exact hv
  have hB1 : atB s (⟨x.i + 1, x.e, x.a, x.d, x.t⟩ : RS) = true := by rw [atB_ok (by exact he)]; simpa using g
  have HV1 : Hid (atV s (⟨x.i + 1, x.e, x.a, x.d, x.t⟩ : RS) = Sp.byteAt s (x.i + 1)) := atV_in hB1
  have g2 : 0 ≤ Sp.hex (atV s (⟨x.i + 1, x.e, x.a, x.d, x.t⟩ : RS)) := by rw [HV1.out]; exact g1
  have g3 := hex_hi (atV s (⟨x.i + 1, x.e, x.a, x.d, x.t⟩ : RS))
  have hB2 : atB s (⟨x.i + 1 + 1, x.e, x.a, x.d, x.t⟩ : RS) = true := by rw [atB_ok (by exact he)]; simpa using k
  have HV2 : Hid (atV s (⟨x.i + 1 + 1, x.e, x.a, x.d, x.t⟩ : RS) = Sp.byteAt s (x.i + 1 + 1)) := atV_in hB2
  have g4 : 0 ≤ Sp.hex (atV s (⟨x.i + 1 + 1, x.e, x.a, x.d, x.t⟩ : RS)) := by rw [HV2.out]; exact k1
  have g5 := hex_hi (atV s (⟨x.i + 1 + 1, x.e, x.a, x.d, x.t⟩ : RS))
  clear h hv he
  go_enter Tryd.func62, Tryd.ntmps62
  go_wp2_with (first | (go_at_call 50; refine (at_any r s x _ (by exact hh.out) hs).mono ?_; rintro e w' ⟨rfl, n, rfl⟩) | (go_at_call 51; refine (sign_any _ _).mono ?_; rintro e w' ⟨rfl, rfl⟩))
  refine wp_loop_rounds 3 ?_
  rw [rounds_succ]
  go_wp2_with fail
  refine (at_any r s (⟨x.i + 1, x.e, x.a, x.d, x.t⟩ : RS) _ (by exact hh.out.set1 (x.i + 1)) hs).mono ?_
  rintro e w' ⟨rfl, n1, rfl⟩
  go_wp2_with fail
  refine (hex_any _ _ (atV_lo _ _) (atV_hi _ _)).mono ?_
  rintro e w' ⟨rfl, rfl⟩
  go_wp2_with fail
  rw [rounds_succ]
  go_wp2_with fail
  refine (at_any r s (⟨x.i + 1 + 1, x.e, x.a, x.d, x.t⟩ : RS) _ (by exact (hh.out.set1 (x.i + 1)).set1 (x.i + 1 + 1)) hs).mono ?_
  rintro e w' ⟨rfl, n2, rfl⟩
  go_wp2_with fail
  refine (hex_any _ _ (atV_lo _ _) (atV_hi _ _)).mono ?_
  rintro e w' ⟨rfl, rfl⟩
  go_wp2_with fail
  rw [rounds_succ]
  go_wp2_with fail
  go_ret
  exact ByteOut.mk_ok _ (x.i + 1 + 2) HR.out (by (repeat (first | exact Upd.refl _ _ | refine Upd.drewN ?_ | refine Upd.drew ?_ | refine Upd.setCell ?_ (by simp) _ | refine Upd.alloc ?_ _))) (ret_int (by rw [HV1.out, HV2.out])) (by exact ((hh.out.set1 (x.i + 1)).set1 (x.i + 1 + 1)).set1 (x.i + 1 + 2))

theorem escape_any (r : Nat) (s : ByteArray) (x : RS) (w : World) (h : RdAt w r s x) (hs : s.size ≤ 200) (he : x.e = 0) :
    Calls Tryd.prog 62 #[.pointer (some ⟨r, 0, none⟩)] w (ByteOut r s x w (Sp.escape s x.i)) := by
  by_cases hi : x.i < s.size
  · by_cases h1 : Sp.byteAt s x.i = 110
    · exact escape_n r s x w h hs he hi h1
    by_cases h2 : Sp.byteAt s x.i = 116
    · exact escape_t r s x w h hs he hi h2
    by_cases h3 : Sp.byteAt s x.i = 120
    · by_cases g : x.i + 1 < s.size
      · by_cases g1 : 0 ≤ Sp.hex (Sp.byteAt s (x.i + 1))
        · by_cases k : x.i + 1 + 1 < s.size
          · by_cases k1 : 0 ≤ Sp.hex (Sp.byteAt s (x.i + 1 + 1))
            · exact escape_x3 r s x w h hs he hi h3 g g1 k k1
            · exact escape_x2b r s x w h hs he hi h3 g g1 k k1
          · exact escape_x2a r s x w h hs he hi h3 g g1 k
        · exact escape_x1b r s x w h hs he hi h3 g g1
      · exact escape_x1a r s x w h hs he hi h3 g
    by_cases h4 : Sp.listSign (Sp.byteAt s x.i) = true
    · exact escape_sign r s x w h hs he hi h1 h2 h3 h4
    · exact escape_no r s x w h hs he hi h1 h2 h3 (by simpa using h4)
  · exact escape_end r s x w h hs he hi

end Go.Proofs.YtcpfpnjkfahjcaaDoor
