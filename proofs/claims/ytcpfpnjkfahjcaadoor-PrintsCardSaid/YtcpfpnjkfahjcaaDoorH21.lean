import Derived.Test.YtcpfpnjkfahjcaaDoorH20
set_option linter.unusedSimpArgs false
set_option linter.unusedVariables false
namespace Go.Proofs.YtcpfpnjkfahjcaaDoor
open Go.RowKit

set_option maxHeartbeats 400000 in
theorem end_out (r : Nat) (s : ByteArray) (x : RS) (w : World) (h : RdAt w r s x) (hs : s.size ≤ 200) (he : x.e = 0) (hi : ¬ x.i < s.size) :
    Calls Tryd.prog 69 #[.pointer (some ⟨r, 0, none⟩)] w (ByteOut r s x w (Sp.byteBut true s x.i)) := by
  obtain ⟨c0, c1, c2, c3, c4, c5, fz⟩ := h.facts
  have hh : Hid (RdAt w r s x) := h
  have HE : Hid (x.e = 0) := he
  have HR : Hid (Sp.byteBut true s x.i = .error (3, x.i)) := by show _ = _; unfold Sp.byteBut; rw [isAt_out hi, if_neg (by simp), if_neg (fun q => hi q.1)]
  have hB : atB s x = false := by rw [atB_ok he]; simpa using hi
  clear h he
  go_enter Tryd.func69, Tryd.ntmps69
  go_wp2_with (first | (go_at_call 50; refine (at_any r s x _ (by exact hh.out) hs).mono ?_; rintro e w' ⟨rfl, n, rfl⟩) | (go_at_call 51; refine (sign_any _ _).mono ?_; rintro e w' ⟨rfl, rfl⟩) | (go_at_call 18; refine (fail_any r s x _ _ _ (by exact hh.out)).mono ?_; rintro e w' ⟨rfl, hu, hf⟩))
  go_ret
  exact ByteOut.mk_error _ _ 0 x.i HR.out ((drewN_upd _ _ _).trans hu) (by omega) (by omega) rfl (by rw [RS.fail_ok HE.out] at hf; exact hf)

set_option maxHeartbeats 400000 in
theorem end_esc (r : Nat) (s : ByteArray) (x : RS) (w : World) (h : RdAt w r s x) (hs : s.size ≤ 200) (he : x.e = 0) (hi : x.i < s.size) (hv : Sp.byteAt s x.i = 92) :
    Calls Tryd.prog 69 #[.pointer (some ⟨r, 0, none⟩)] w (ByteOut r s x w (Sp.byteBut true s x.i)) := by
  obtain ⟨c0, c1, c2, c3, c4, c5, fz⟩ := h.facts
  have hh : Hid (RdAt w r s x) := h
  have HE : Hid (x.e = 0) := he
  have HR : Hid (Sp.byteBut true s x.i = Sp.escape s (x.i + 1)) := by show _ = _; unfold Sp.byteBut; rw [isAt_ok hi, if_pos (by simpa using hv)]
  have hB : atB s x = true := by rw [atB_ok he]; simpa using hi
  have hV : atV s x = 92 := by rw [atV_in hB]; exact hv
  clear h hv
  go_enter Tryd.func69, Tryd.ntmps69
  go_wp2_with (go_at_call 50; refine (at_any r s x _ (by exact hh.out) hs).mono ?_; rintro e w' ⟨rfl, n, rfl⟩)
  refine (escape_any r s (⟨x.i + 1, x.e, x.a, x.d, x.t⟩ : RS) _ (by exact hh.out.set1 (x.i + 1)) hs (by exact he)).mono ?_
  rintro e w' ⟨hu, hq⟩
  have HU : Hid (Upd [r] w w') := (by refine Upd.trans ?_ hu; (repeat (first | exact Upd.refl _ _ | refine Upd.drewN ?_ | refine Upd.drew ?_ | refine Upd.setCell ?_ (by simp) _ | refine Upd.alloc ?_ _)) : Upd [r] w w')
  clear hu
  revert hq
  cases hr : Sp.escape s (x.i + 1) with
  | ok p =>
    obtain ⟨v, j⟩ := p
    rintro ⟨rfl, hf⟩
    have HR' : Hid (Sp.byteBut true s x.i = .ok (v, j)) := HR.out.trans hr
    clear hr
    go_wp2
    go_ret
    exact ByteOut.mk_ok v j HR'.out HU.out rfl hf
  | error p =>
    obtain ⟨e1, a1⟩ := p
    rintro ⟨v, i', h0, h1, rfl, hf⟩
    have HR' : Hid (Sp.byteBut true s x.i = .error (e1, a1)) := HR.out.trans hr
    clear hr
    go_wp2
    go_ret
    exact ByteOut.mk_error _ _ v i' HR'.out HU.out h0 h1 rfl hf

set_option maxHeartbeats 400000 in
theorem end_no (r : Nat) (s : ByteArray) (x : RS) (w : World) (h : RdAt w r s x) (hs : s.size ≤ 200) (he : x.e = 0) (hi : x.i < s.size) (hv : Sp.byteAt s x.i ≠ 92) (hl : Sp.listSign (Sp.byteAt s x.i) = true) :
    Calls Tryd.prog 69 #[.pointer (some ⟨r, 0, none⟩)] w (ByteOut r s x w (Sp.byteBut true s x.i)) := by
  obtain ⟨c0, c1, c2, c3, c4, c5, fz⟩ := h.facts
  have hh : Hid (RdAt w r s x) := h
  have HE : Hid (x.e = 0) := he
  have HR : Hid (Sp.byteBut true s x.i = .error (3, x.i)) := by show _ = _; unfold Sp.byteBut; rw [isAt_ok hi, if_neg (by simpa using hv), if_neg (fun q => by simp [hl] at q)]
  have hB : atB s x = true := by rw [atB_ok he]; simpa using hi
  have HV : Hid (atV s x = Sp.byteAt s x.i) := atV_in hB
  have g1 : (atV s x == 92) = false := by rw [HV.out]; simpa using hv
  have g4 : Hid (Sp.sign (atV s x) = true ∨ atV s x = 45 ∨ atV s x = 94) := by
    show _ ∨ _; rw [HV.out]; unfold Sp.listSign at hl; simp at hl; rcases hl with (q | q) | q <;> simp [q]
  clear h he hv hl
  go_enter Tryd.func69, Tryd.ntmps69
  go_wp2_with (first | (go_at_call 50; refine (at_any r s x _ (by exact hh.out) hs).mono ?_; rintro e w' ⟨rfl, n, rfl⟩) | (go_at_call 51; refine (sign_any _ _).mono ?_; rintro e w' ⟨rfl, rfl⟩) | (go_at_call 18; refine (fail_any r s x _ _ _ (by exact hh.out)).mono ?_; rintro e w' ⟨rfl, hu, hf⟩))
  · go_ret
    exact ByteOut.mk_error _ _ 0 x.i HR.out ((drewN_upd _ _ _).trans hu) (by omega) (by omega) rfl (by rw [RS.fail_ok HE.out] at hf; exact hf)
  · go_ret
    exact ByteOut.mk_error _ _ 0 x.i HR.out ((drewN_upd _ _ _).trans hu) (by omega) (by omega) rfl (by rw [RS.fail_ok HE.out] at hf; exact hf)
  · go_ret
    exact ByteOut.mk_error _ _ 0 x.i HR.out ((drewN_upd _ _ _).trans hu) (by omega) (by omega) rfl (by rw [RS.fail_ok HE.out] at hf; exact hf)
  · rename_i q1 q2 q3
    have := g4.out
    simp at q3
    simp [q1, q3] at this

set_option maxHeartbeats 400000 in
theorem end_ok (r : Nat) (s : ByteArray) (x : RS) (w : World) (h : RdAt w r s x) (hs : s.size ≤ 200) (he : x.e = 0) (hi : x.i < s.size) (hv : Sp.byteAt s x.i ≠ 92) (hl : Sp.listSign (Sp.byteAt s x.i) = false) :
    Calls Tryd.prog 69 #[.pointer (some ⟨r, 0, none⟩)] w (ByteOut r s x w (Sp.byteBut true s x.i)) := by
  obtain ⟨c0, c1, c2, c3, c4, c5, fz⟩ := h.facts
  have hh : Hid (RdAt w r s x) := h
  have HR : Hid (Sp.byteBut true s x.i = .ok (Sp.byteAt s x.i, x.i + 1)) := by show _ = _; unfold Sp.byteBut; rw [isAt_ok hi, if_neg (by simpa using hv), if_pos ⟨hi, by simpa using hl⟩]
  have hB : atB s x = true := by rw [atB_ok he]; simpa using hi
  have HV : Hid (atV s x = Sp.byteAt s x.i) := atV_in hB
  have g1 : (atV s x == 92) = false := by rw [HV.out]; simpa using hv
  have g4 : Sp.sign (atV s x) = false := by rw [HV.out]; unfold Sp.listSign at hl; simp at hl; exact hl.1.1
  have g5 : (atV s x == 45) = false := by rw [HV.out]; unfold Sp.listSign at hl; simp at hl; simpa using hl.1.2
  have g6 : (atV s x == 94) = false := by rw [HV.out]; unfold Sp.listSign at hl; simp at hl; simpa using hl.2
  clear h he hv hl
  go_enter Tryd.func69, Tryd.ntmps69
  go_wp2_with (first | (go_at_call 50; refine (at_any r s x _ (by exact hh.out) hs).mono ?_; rintro e w' ⟨rfl, n, rfl⟩) | (go_at_call 51; refine (sign_any _ _).mono ?_; rintro e w' ⟨rfl, rfl⟩))
  go_ret
  exact ByteOut.mk_ok _ (x.i + 1) HR.out ((drewN_upd _ _ _).setCell (by simp) _) (ret_int HV.out) (hh.out.set1 (x.i + 1))

theorem end_any (r : Nat) (s : ByteArray) (x : RS) (w : World) (h : RdAt w r s x) (hs : s.size ≤ 200) (he : x.e = 0) :
    Calls Tryd.prog 69 #[.pointer (some ⟨r, 0, none⟩)] w (ByteOut r s x w (Sp.byteBut true s x.i)) := by
  by_cases hi : x.i < s.size
  · by_cases h1 : Sp.byteAt s x.i = 92
    · exact end_esc r s x w h hs he hi h1
    by_cases h2 : Sp.listSign (Sp.byteAt s x.i) = true
    · exact end_no r s x w h hs he hi h1 h2
    · exact end_ok r s x w h hs he hi h1 (by simpa using h2)
  · exact end_out r s x w h hs he hi

/-- What a call that reads a number leaves. -/
def NumOut (r : Nat) (s : ByteArray) (x : RS) (w : World) (res : Sp.Res (Int × Nat)) (k : Ending) (w' : World) : Prop :=
  Upd [r] w w' ∧ match res with
  | .ok (v, j) => k = .returned (.tuple #[.int .i64 v, .int .i64 x.i]) ∧ 0 ≤ v ∧ v ≤ 20 ∧ RdAt w' r s { x with i := j }
  | .error (e, a) => e ≠ 0 ∧ ∃ v i', 0 ≤ v ∧ v ≤ 99 ∧ k = .returned (.tuple #[.int .i64 v, .int .i64 x.i]) ∧ RdAt w' r s { x with i := i', e := e, a := a }

theorem NumOut.mk_ok {r : Nat} {s : ByteArray} {x : RS} {w w' : World} {res : Sp.Res (Int × Nat)} {k : Ending} (v : Int) (j : Nat) (h : res = .ok (v, j)) (u : Upd [r] w w') (hk : k = .returned (.tuple #[.int .i64 v, .int .i64 x.i])) (h0 : 0 ≤ v) (h1 : v ≤ 20) (hr : RdAt w' r s { x with i := j }) : NumOut r s x w res k w' := by
  subst h; exact ⟨u, hk, h0, h1, hr⟩
theorem NumOut.mk_error {r : Nat} {s : ByteArray} {x : RS} {w w' : World} {res : Sp.Res (Int × Nat)} {k : Ending} (e a : Int) (v : Int) (i' : Nat) (h : res = .error (e, a)) (he : e ≠ 0) (u : Upd [r] w w') (h0 : 0 ≤ v) (h1 : v ≤ 99) (hk : k = .returned (.tuple #[.int .i64 v, .int .i64 x.i])) (hr : RdAt w' r s { x with i := i', e := e, a := a }) : NumOut r s x w res k w' := by
  subst h; exact ⟨u, he, v, i', h0, h1, hk, hr⟩

set_option maxHeartbeats 400000 in
theorem number_no (r : Nat) (s : ByteArray) (x : RS) (w : World) (h : RdAt w r s x) (hs : s.size ≤ 200) (he : x.e = 0) (hd : Sp.digitAt s x.i = false) :
    Calls Tryd.prog 71 #[.pointer (some ⟨r, 0, none⟩)] w (NumOut r s x w (Sp.number 0 s x.i)) := by
  obtain ⟨c0, c1, c2, c3, c4, c5, fz⟩ := h.facts
  have hh : Hid (RdAt w r s x) := h
  have HE : Hid (x.e = 0) := he
  have HR : Hid (Sp.number 0 s x.i = .error (3, x.i)) := by show _ = _; unfold Sp.number; rw [hd, if_neg (by simp)]
  have g4 : Hid (¬ (atB s x = true ∧ 48 ≤ atV s x ∧ atV s x ≤ 57)) := by
    intro ⟨q1, q2, q3⟩; rw [atV_in q1] at q2 q3; rw [atB_ok he] at q1; simp at q1; simp [Sp.digitAt, q1, q2] at hd; omega
  clear h he hd
  go_enter Tryd.func71, Tryd.ntmps71
  go_wp2_with (first | (go_at_call 50; refine (at_any r s x _ (by exact hh.out) hs).mono ?_; rintro e w' ⟨rfl, n, rfl⟩) | (go_at_call 18; refine (fail_any r s x _ _ _ (by exact hh.out)).mono ?_; rintro e w' ⟨rfl, hu, hf⟩))
  · go_ret2
    exact NumOut.mk_error _ _ 0 x.i HR.out (by decide) ((drewN_upd _ _ _).trans hu) (by omega) (by omega) rfl (by rw [RS.fail_ok HE.out] at hf; exact hf)
  · exact absurd ⟨‹atB s x = true›, ‹48 ≤ atV s x ∧ atV s x ≤ 57›⟩ g4.out
  · go_ret2
    exact NumOut.mk_error _ _ 0 x.i HR.out (by decide) ((drewN_upd _ _ _).trans hu) (by omega) (by omega) rfl (by rw [RS.fail_ok HE.out] at hf; exact hf)
  · go_ret2
    exact NumOut.mk_error _ _ 0 x.i HR.out (by decide) ((drewN_upd _ _ _).trans hu) (by omega) (by omega) rfl (by rw [RS.fail_ok HE.out] at hf; exact hf)

theorem digits_two {s : ByteArray} {x : RS} (he : x.e = 0) (hB : atB s x = true) (g0 : 48 < atV s x) (hB1 : atB s (⟨x.i + 1, x.e, x.a, x.d, x.t⟩ : RS) = true) (g1 : 48 ≤ atV s (⟨x.i + 1, x.e, x.a, x.d, x.t⟩ : RS)) (g2 : atV s (⟨x.i + 1, x.e, x.a, x.d, x.t⟩ : RS) ≤ 57) :
    Sp.digits s x.i = (10 * (atV s x - 48) + (atV s (⟨x.i + 1, x.e, x.a, x.d, x.t⟩ : RS) - 48), x.i + 2) := by
  rw [atV_in hB1] at *; rw [atV_in hB] at *; rw [atB_ok (by exact he)] at hB1; simp at hB1 g1 g2
  unfold Sp.digits; rw [if_pos ⟨by omega, by simp [Sp.digitAt, hB1, g1, g2]⟩]
theorem digits_one {s : ByteArray} {x : RS} (he : x.e = 0) (hB : atB s x = true) (g : ¬ (48 < atV s x ∧ atB s (⟨x.i + 1, x.e, x.a, x.d, x.t⟩ : RS) = true ∧ 48 ≤ atV s (⟨x.i + 1, x.e, x.a, x.d, x.t⟩ : RS) ∧ atV s (⟨x.i + 1, x.e, x.a, x.d, x.t⟩ : RS) ≤ 57)) :
    Sp.digits s x.i = (atV s x - 48, x.i + 1) := by
  rw [atV_in hB] at *
  unfold Sp.digits; rw [if_neg]
  rintro ⟨q0, q1⟩
  simp [Sp.digitAt] at q1
  have hB1 : atB s (⟨x.i + 1, x.e, x.a, x.d, x.t⟩ : RS) = true := by rw [atB_ok (by exact he)]; simpa using q1.1.1
  exact g ⟨by omega, hB1, by rw [atV_in hB1]; exact q1.1.2, by rw [atV_in hB1]; exact q1.2⟩
theorem number_no_of {s : ByteArray} {i : Nat} {n : Int} {j : Nat} (hd : Sp.digitAt s i = true) (h : Sp.digits s i = (n, j)) (hn : 20 < n) : Sp.number 0 s i = .error (4, i) := by
  unfold Sp.number; rw [hd, if_pos rfl, h, if_pos (Or.inl hn)]
theorem number_ok_of {s : ByteArray} {i : Nat} {n : Int} {j : Nat} (hd : Sp.digitAt s i = true) (h : Sp.digits s i = (n, j)) (hn : n ≤ 20) (h0 : 0 ≤ n) : Sp.number 0 s i = .ok (n, j) := by
  unfold Sp.number; rw [hd, if_pos rfl, h, if_neg]; intro q; omega

set_option maxHeartbeats 400000 in
theorem number_yes (r : Nat) (s : ByteArray) (x : RS) (w : World) (h : RdAt w r s x) (hs : s.size ≤ 200) (he : x.e = 0) (hd : Sp.digitAt s x.i = true) :
    Calls Tryd.prog 71 #[.pointer (some ⟨r, 0, none⟩)] w (NumOut r s x w (Sp.number 0 s x.i)) := by
  obtain ⟨c0, c1, c2, c3, c4, c5, fz⟩ := h.facts
  have hh : Hid (RdAt w r s x) := h
  have HE : Hid (x.e = 0) := he
  have hi : x.i < s.size := by simp [Sp.digitAt] at hd; exact hd.1.1
  have hB : atB s x = true := by rw [atB_ok he]; simpa using hi
  have HV : Hid (atV s x = Sp.byteAt s x.i) := atV_in hB
  have g1 : 48 ≤ atV s x := by rw [HV.out]; simp [Sp.digitAt] at hd; exact hd.1.2
  have g2 : atV s x ≤ 57 := by rw [HV.out]; simp [Sp.digitAt] at hd; exact hd.2
  have HD : Hid (Sp.digitAt s x.i = true) := hd
  clear h he hd
  go_enter Tryd.func71, Tryd.ntmps71
  go_wp2_with (go_at_call 50; refine (at_any r s x _ (by exact hh.out) hs).mono ?_; rintro e w' ⟨rfl, n, rfl⟩)
  refine (at_any r s (⟨x.i + 1, x.e, x.a, x.d, x.t⟩ : RS) _ (by exact hh.out.set1 (x.i + 1)) hs).mono ?_
  rintro e w' ⟨rfl, n1, rfl⟩
  go_wp2_with fail
  · have HN := digits_two HE.out hB ‹_› ‹_› ‹_› ‹_›
    have HR : Hid (Sp.number 0 s x.i = .error (4, x.i)) := number_no_of HD.out HN ‹_›
    clear HN
    refine (fail_any r s (⟨x.i + 1 + 1, x.e, x.a, x.d, x.t⟩ : RS) _ _ _ (by exact (hh.out.set1 (x.i + 1)).set1 (x.i + 1 + 1))).mono ?_
    rintro e w' ⟨rfl, hu, hf⟩
    go_wp2_with fail
    go_ret2
    exact NumOut.mk_error _ _ _ _ HR.out (by decide) (by refine Upd.trans ?_ hu; (repeat (first | exact Upd.refl _ _ | refine Upd.drewN ?_ | refine Upd.drew ?_ | refine Upd.setCell ?_ (by simp) _ | refine Upd.alloc ?_ _))) (by omega) (by omega) rfl (by rw [RS.fail_ok (by exact HE.out)] at hf; exact hf)
  · have HN := digits_two HE.out hB ‹_› ‹_› ‹_› ‹_›
    have HR : Hid (Sp.number 0 s x.i = .ok _) := number_ok_of HD.out HN ‹_› (by omega)
    go_ret2
    exact NumOut.mk_ok _ _ HR.out (by (repeat (first | exact Upd.refl _ _ | refine Upd.drewN ?_ | refine Upd.drew ?_ | refine Upd.setCell ?_ (by simp) _ | refine Upd.alloc ?_ _))) rfl (by omega) (by omega) (by exact (hh.out.set1 (x.i + 1)).set1 (x.i + 1 + 1))
  all_goals
    have HN := digits_one HE.out hB (fun q => by first | omega | exact absurd q.2.1 ‹_›)
    have HR : Hid (Sp.number 0 s x.i = .ok _) := number_ok_of HD.out HN (by omega) (by omega)
    go_ret2
    exact NumOut.mk_ok _ _ HR.out (by (repeat (first | exact Upd.refl _ _ | refine Upd.drewN ?_ | refine Upd.drew ?_ | refine Upd.setCell ?_ (by simp) _ | refine Upd.alloc ?_ _))) rfl (by omega) (by omega) (by exact hh.out.set1 (x.i + 1))

theorem number_any (r : Nat) (s : ByteArray) (x : RS) (w : World) (h : RdAt w r s x) (hs : s.size ≤ 200) (he : x.e = 0) :
    Calls Tryd.prog 71 #[.pointer (some ⟨r, 0, none⟩)] w (NumOut r s x w (Sp.number 0 s x.i)) := by
  by_cases hd : Sp.digitAt s x.i = true
  · exact number_yes r s x w h hs he hd
  · exact number_no r s x w h hs he (by simpa using hd)
end Go.Proofs.YtcpfpnjkfahjcaaDoor
