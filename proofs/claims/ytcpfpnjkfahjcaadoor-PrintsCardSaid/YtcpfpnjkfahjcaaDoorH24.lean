import Derived.Test.YtcpfpnjkfahjcaaDoorH23
set_option linter.unusedSimpArgs false
set_option linter.unusedVariables false
namespace Go.Proofs.YtcpfpnjkfahjcaaDoor
open Go.RowKit

set_option maxHeartbeats 400000 in
theorem count_out (r p : Nat) (s : ByteArray) (x : RS) (a : PS) (w : World) (h : RdAt w r s x) (hp : PtAt w p a) (hrp : r ≠ p) (hs : s.size ≤ 200) (he : x.e = 0) (hmin : a.min = -1) (hmax : a.max = 0) (hi : ¬ x.i < s.size) :
    Calls Tryd.prog 49 #[.pointer (some ⟨r, 0, none⟩), .pointer (some ⟨p, 0, none⟩)] w (CountOut r p s x a w (Sp.count s x.i)) := by
  obtain ⟨c0, c1, c2, c3, c4, c5, fz⟩ := h.facts
  obtain ⟨p0, p1, p258, p259, p260, p261, p262, p263, pz⟩ := hp.facts
  have hh : Hid (RdAt w r s x) := h
  have hpp : Hid (PtAt w p a) := hp
  have HE : Hid (x.e = 0) := he
  have HA : Hid (a = { a with min := -1, max := 0 }) := by show _ = _; cases a; simp_all
  have HR : Hid (Sp.count s x.i = .ok (-1, 0, x.i)) := by show _ = _; unfold Sp.count; simp [isAt_out hi]
  have hB : atB s x = false := by rw [atB_ok he]; simpa using hi
  clear h hp he hmin hmax
  go_enter Tryd.func49, Tryd.ntmps49
  go_wp2_with (go_at_call 50; refine (at_any r s x _ (by exact hh.out) hs).mono ?_; rintro e w' ⟨rfl, n, rfl⟩)
  go_end0
  exact CountOut.mk_ok _ _ _ HR.out rfl (by (repeat (first | exact Upd.refl _ _ | refine Upd.drewN ?_ | refine Upd.drew ?_ | refine Upd.setCell ?_ (by simp) _ | refine Upd.alloc ?_ _))) (by exact hh.out) (by rw [← HA.out]; exact hpp.out)

set_option maxHeartbeats 400000 in
theorem count_star (r p : Nat) (s : ByteArray) (x : RS) (a : PS) (w : World) (h : RdAt w r s x) (hp : PtAt w p a) (hrp : r ≠ p) (hs : s.size ≤ 200) (he : x.e = 0) (hmin : a.min = -1) (hmax : a.max = 0) (hi : x.i < s.size) (hv : Sp.byteAt s x.i = 42) :
    Calls Tryd.prog 49 #[.pointer (some ⟨r, 0, none⟩), .pointer (some ⟨p, 0, none⟩)] w (CountOut r p s x a w (Sp.count s x.i)) := by
  obtain ⟨c0, c1, c2, c3, c4, c5, fz⟩ := h.facts
  obtain ⟨p0, p1, p258, p259, p260, p261, p262, p263, pz⟩ := hp.facts
  have hh : Hid (RdAt w r s x) := h
  have hpp : Hid (PtAt w p a) := hp
  have HE : Hid (x.e = 0) := he
  have HA : Hid (a = { a with min := -1, max := 0 }) := by show _ = _; cases a; simp_all
  have HR : Hid (Sp.count s x.i = .ok (0, -1, x.i + 1)) := by show _ = _; unfold Sp.count; simp [isAt_ok hi, hv]
  have hB : atB s x = true := by rw [atB_ok he]; simpa using hi
  have hV : atV s x = 42 := by rw [atV_in hB]; exact hv
  clear h hp he hmin hmax
  go_enter Tryd.func49, Tryd.ntmps49
  go_wp2_with (go_at_call 50; refine (at_any r s x _ (by exact hh.out) hs).mono ?_; rintro e w' ⟨rfl, n, rfl⟩)
  go_end0
  exact CountOut.mk_ok _ _ _ HR.out rfl (by (repeat (first | exact Upd.refl _ _ | refine Upd.drewN ?_ | refine Upd.drew ?_ | refine Upd.setCell ?_ (by simp) _ | refine Upd.alloc ?_ _))) (((hh.out.set1 (x.i + 1)).other hrp 262 _).other hrp 263 _) (((hpp.out.other hrp.symm 1 _).set262 0).set263 (-1))

set_option maxHeartbeats 400000 in
theorem count_plus (r p : Nat) (s : ByteArray) (x : RS) (a : PS) (w : World) (h : RdAt w r s x) (hp : PtAt w p a) (hrp : r ≠ p) (hs : s.size ≤ 200) (he : x.e = 0) (hmin : a.min = -1) (hmax : a.max = 0) (hi : x.i < s.size) (hv : Sp.byteAt s x.i = 43) :
    Calls Tryd.prog 49 #[.pointer (some ⟨r, 0, none⟩), .pointer (some ⟨p, 0, none⟩)] w (CountOut r p s x a w (Sp.count s x.i)) := by
  obtain ⟨c0, c1, c2, c3, c4, c5, fz⟩ := h.facts
  obtain ⟨p0, p1, p258, p259, p260, p261, p262, p263, pz⟩ := hp.facts
  have hh : Hid (RdAt w r s x) := h
  have hpp : Hid (PtAt w p a) := hp
  have HE : Hid (x.e = 0) := he
  have HA : Hid (a = { a with min := -1, max := 0 }) := by show _ = _; cases a; simp_all
  have HR : Hid (Sp.count s x.i = .ok (1, -1, x.i + 1)) := by show _ = _; unfold Sp.count; simp [isAt_ok hi, hv]
  have hB : atB s x = true := by rw [atB_ok he]; simpa using hi
  have hV : atV s x = 43 := by rw [atV_in hB]; exact hv
  clear h hp he hmin hmax
  go_enter Tryd.func49, Tryd.ntmps49
  go_wp2_with (go_at_call 50; refine (at_any r s x _ (by exact hh.out) hs).mono ?_; rintro e w' ⟨rfl, n, rfl⟩)
  go_end0
  exact CountOut.mk_ok _ _ _ HR.out rfl (by (repeat (first | exact Upd.refl _ _ | refine Upd.drewN ?_ | refine Upd.drew ?_ | refine Upd.setCell ?_ (by simp) _ | refine Upd.alloc ?_ _))) (((hh.out.set1 (x.i + 1)).other hrp 262 _).other hrp 263 _) (((hpp.out.other hrp.symm 1 _).set262 1).set263 (-1))

set_option maxHeartbeats 400000 in
theorem count_quest (r p : Nat) (s : ByteArray) (x : RS) (a : PS) (w : World) (h : RdAt w r s x) (hp : PtAt w p a) (hrp : r ≠ p) (hs : s.size ≤ 200) (he : x.e = 0) (hmin : a.min = -1) (hmax : a.max = 0) (hi : x.i < s.size) (hv : Sp.byteAt s x.i = 63) :
    Calls Tryd.prog 49 #[.pointer (some ⟨r, 0, none⟩), .pointer (some ⟨p, 0, none⟩)] w (CountOut r p s x a w (Sp.count s x.i)) := by
  obtain ⟨c0, c1, c2, c3, c4, c5, fz⟩ := h.facts
  obtain ⟨p0, p1, p258, p259, p260, p261, p262, p263, pz⟩ := hp.facts
  have hh : Hid (RdAt w r s x) := h
  have hpp : Hid (PtAt w p a) := hp
  have HE : Hid (x.e = 0) := he
  have HA : Hid (a = { a with min := -1, max := 0 }) := by show _ = _; cases a; simp_all
  have HR : Hid (Sp.count s x.i = .ok (0, 1, x.i + 1)) := by show _ = _; unfold Sp.count; simp [isAt_ok hi, hv]
  have hB : atB s x = true := by rw [atB_ok he]; simpa using hi
  have hV : atV s x = 63 := by rw [atV_in hB]; exact hv
  clear h hp he hmin hmax
  go_enter Tryd.func49, Tryd.ntmps49
  go_wp2_with (go_at_call 50; refine (at_any r s x _ (by exact hh.out) hs).mono ?_; rintro e w' ⟨rfl, n, rfl⟩)
  go_end0
  exact CountOut.mk_ok _ _ _ HR.out rfl (by (repeat (first | exact Upd.refl _ _ | refine Upd.drewN ?_ | refine Upd.drew ?_ | refine Upd.setCell ?_ (by simp) _ | refine Upd.alloc ?_ _))) (((hh.out.set1 (x.i + 1)).other hrp 262 _).other hrp 263 _) (((hpp.out.other hrp.symm 1 _).set262 0).set263 (1))

set_option maxHeartbeats 400000 in
theorem count_brace (r p : Nat) (s : ByteArray) (x : RS) (a : PS) (w : World) (h : RdAt w r s x) (hp : PtAt w p a) (hrp : r ≠ p) (hs : s.size ≤ 200) (he : x.e = 0) (hmin : a.min = -1) (hmax : a.max = 0) (hi : x.i < s.size) (hv : Sp.byteAt s x.i = 123) :
    Calls Tryd.prog 49 #[.pointer (some ⟨r, 0, none⟩), .pointer (some ⟨p, 0, none⟩)] w (CountOut r p s x a w (Sp.count s x.i)) := by
  obtain ⟨c0, c1, c2, c3, c4, c5, fz⟩ := h.facts
  obtain ⟨p0, p1, p258, p259, p260, p261, p262, p263, pz⟩ := hp.facts
  have hh : Hid (RdAt w r s x) := h
  have hpp : Hid (PtAt w p a) := hp
  have HE : Hid (x.e = 0) := he
  have HA : Hid (a = { a with min := -1, max := 0 }) := by show _ = _; cases a; simp_all
  have HR : Hid (Sp.count s x.i = Sp.bounds s (x.i + 1)) := by show _ = _; unfold Sp.count; simp [isAt_ok hi, hv]
  have hB : atB s x = true := by rw [atB_ok he]; simpa using hi
  have hV : atV s x = 123 := by rw [atV_in hB]; exact hv
  clear h hp he hmin hmax
  go_enter Tryd.func49, Tryd.ntmps49
  go_wp2_with (go_at_call 50; refine (at_any r s x _ (by exact hh.out) hs).mono ?_; rintro e w' ⟨rfl, n, rfl⟩)
  refine (braces_any r p s (⟨x.i + 1, x.e, x.a, x.d, x.t⟩ : RS) a _ (by exact hh.out.set1 (x.i + 1)) (by exact hpp.out.other hrp.symm 1 _) hrp hs (by exact HE.out)).mono ?_
  rintro e w1 ⟨rfl, hu, hq⟩
  have HU : Hid (Upd [r, p] w w1) := (by refine Upd.trans ?_ hu; (repeat (first | exact Upd.refl _ _ | refine Upd.drewN ?_ | refine Upd.drew ?_ | refine Upd.setCell ?_ (by simp) _ | refine Upd.alloc ?_ _)) : Upd [r, p] w w1)
  have HQ := Hid.out (p := _) hq
  have HQ' : Hid (CountOut r p s x a w (Sp.count s x.i) (.returned (.tuple #[])) w1) := by
    rw [HR.out]; exact ⟨rfl, HU.out, hq⟩
  clear hu hq HQ
  go_wp2_with fail
  go_end0
  exact HQ'.out

set_option maxHeartbeats 400000 in
theorem count_none (r p : Nat) (s : ByteArray) (x : RS) (a : PS) (w : World) (h : RdAt w r s x) (hp : PtAt w p a) (hrp : r ≠ p) (hs : s.size ≤ 200) (he : x.e = 0) (hmin : a.min = -1) (hmax : a.max = 0) (hi : x.i < s.size) (h1 : Sp.byteAt s x.i ≠ 42) (h2 : Sp.byteAt s x.i ≠ 43) (h3 : Sp.byteAt s x.i ≠ 63) (h4 : Sp.byteAt s x.i ≠ 123) :
    Calls Tryd.prog 49 #[.pointer (some ⟨r, 0, none⟩), .pointer (some ⟨p, 0, none⟩)] w (CountOut r p s x a w (Sp.count s x.i)) := by
  obtain ⟨c0, c1, c2, c3, c4, c5, fz⟩ := h.facts
  obtain ⟨p0, p1, p258, p259, p260, p261, p262, p263, pz⟩ := hp.facts
  have hh : Hid (RdAt w r s x) := h
  have hpp : Hid (PtAt w p a) := hp
  have HE : Hid (x.e = 0) := he
  have HA : Hid (a = { a with min := -1, max := 0 }) := by show _ = _; cases a; simp_all
  have HR : Hid (Sp.count s x.i = .ok (-1, 0, x.i)) := by show _ = _; unfold Sp.count; simp [isAt_ok hi, h1, h2, h3, h4]
  have hB : atB s x = true := by rw [atB_ok he]; simpa using hi
  have HV : Hid (atV s x = Sp.byteAt s x.i) := atV_in hB
  have g1 : (atV s x == 42) = false := by rw [HV.out]; simpa using h1
  have g2 : (atV s x == 43) = false := by rw [HV.out]; simpa using h2
  have g3 : (atV s x == 63) = false := by rw [HV.out]; simpa using h3
  have g4 : (atV s x == 123) = false := by rw [HV.out]; simpa using h4
  clear h1 h2 h3 h4
  clear h hp he hmin hmax
  go_enter Tryd.func49, Tryd.ntmps49
  go_wp2_with (go_at_call 50; refine (at_any r s x _ (by exact hh.out) hs).mono ?_; rintro e w' ⟨rfl, n, rfl⟩)
  go_end0
  exact CountOut.mk_ok _ _ _ HR.out rfl (by (repeat (first | exact Upd.refl _ _ | refine Upd.drewN ?_ | refine Upd.drew ?_ | refine Upd.setCell ?_ (by simp) _ | refine Upd.alloc ?_ _))) (by exact hh.out) (by rw [← HA.out]; exact hpp.out)

theorem count_any (r p : Nat) (s : ByteArray) (x : RS) (a : PS) (w : World) (h : RdAt w r s x) (hp : PtAt w p a) (hrp : r ≠ p) (hs : s.size ≤ 200) (he : x.e = 0) (hmin : a.min = -1) (hmax : a.max = 0) :
    Calls Tryd.prog 49 #[.pointer (some ⟨r, 0, none⟩), .pointer (some ⟨p, 0, none⟩)] w (CountOut r p s x a w (Sp.count s x.i)) := by
  by_cases hi : x.i < s.size
  · by_cases h1 : Sp.byteAt s x.i = 42
    · exact count_star r p s x a w h hp hrp hs he hmin hmax hi h1
    by_cases h2 : Sp.byteAt s x.i = 43
    · exact count_plus r p s x a w h hp hrp hs he hmin hmax hi h2
    by_cases h3 : Sp.byteAt s x.i = 63
    · exact count_quest r p s x a w h hp hrp hs he hmin hmax hi h3
    by_cases h4 : Sp.byteAt s x.i = 123
    · exact count_brace r p s x a w h hp hrp hs he hmin hmax hi h4
    · exact count_none r p s x a w h hp hrp hs he hmin hmax hi h1 h2 h3 h4
  · exact count_out r p s x a w h hp hrp hs he hmin hmax hi

/-- Nothing is handed back, nothing has turned. -/
def Drawn (w : World) (k : Ending) (w' : World) : Prop := k = .returned (.tuple #[]) ∧ ∃ n, w' = w.drewN n

set_option maxHeartbeats 400000 in
/-- Behind an error nothing is counted. -/
theorem count_err (r p : Nat) (s : ByteArray) (x : RS) (w : World) (h : RdAt w r s x) (hs : s.size ≤ 200) (he : x.e ≠ 0) :
    Calls Tryd.prog 49 #[.pointer (some ⟨r, 0, none⟩), .pointer (some ⟨p, 0, none⟩)] w (Drawn w) := by
  obtain ⟨c0, c1, c2, c3, c4, c5, fz⟩ := h.facts
  have hh : Hid (RdAt w r s x) := h
  have hB : atB s x = false := by simp [atB, he]
  clear h he
  go_enter Tryd.func49, Tryd.ntmps49
  go_wp2_with (go_at_call 50; refine (at_any r s x _ (by exact hh.out) hs).mono ?_; rintro e w' ⟨rfl, n, rfl⟩)
  go_end0
  exact ⟨rfl, _, rfl⟩
end Go.Proofs.YtcpfpnjkfahjcaaDoor
