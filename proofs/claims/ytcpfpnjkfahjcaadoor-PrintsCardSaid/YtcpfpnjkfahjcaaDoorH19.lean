import Derived.Test.YtcpfpnjkfahjcaaDoorH01
set_option linter.unusedSimpArgs false
set_option linter.unusedVariables false
namespace Go.Proofs.YtcpfpnjkfahjcaaDoor
open Go.RowKit

set_option maxHeartbeats 400000 in
theorem hex_any (c : Int) (w : World) (h0 : 0 ≤ c) (h1 : c ≤ 255) :
    Calls Tryd.prog 70 #[.int .u8 c] w fun e w' => e = .returned (.int .i64 (Sp.hex c)) ∧ w' = w := by
  go_enter Tryd.func70, Tryd.ntmps70
  go_wp2
  all_goals
    go_ret
    exact ⟨ret_int (by unfold Sp.hex; (repeat' split) <;> omega), rfl⟩

/-- Behind a fault: the first one stays. -/
def RS.fail (x : RS) (e a : Int) : RS := if x.e = 0 then { x with e := e, a := a } else x
theorem RS.fail_ok {x : RS} (h : x.e = 0) (e a : Int) : x.fail e a = { x with e := e, a := a } := if_pos h
theorem RS.fail_no {x : RS} (h : x.e ≠ 0) (e a : Int) : x.fail e a = x := if_neg h

def rdCells (s : ByteArray) (x : RS) : Array Value := #[.string s, .int .i64 x.i, .int .i64 x.e, .int .i64 x.a, .int .i64 x.d, .int .i64 x.t, .slice none 0 0, .slice none 0 0]

def RdAt (w : World) (r : Nat) (s : ByteArray) (x : RS) : Prop := w.heap[r]? = some (.cells (rdCells s x) 47 (0, 0))

structure RdFacts (w : World) (r : Nat) (s : ByteArray) (x : RS) : Prop where
  c0 : w.cell? ⟨r, 0, none⟩ = some (.string s)
  c1 : w.cell? ⟨r, 1, none⟩ = some (.int .i64 x.i)
  c2 : w.cell? ⟨r, 2, none⟩ = some (.int .i64 x.e)
  c3 : w.cell? ⟨r, 3, none⟩ = some (.int .i64 x.a)
  c4 : w.cell? ⟨r, 4, none⟩ = some (.int .i64 x.d)
  c5 : w.cell? ⟨r, 5, none⟩ = some (.int .i64 x.t)
  fz : ∀ o, w.frozen? ⟨r, o, none⟩ = false

theorem RdAt.facts {w : World} {r : Nat} {s : ByteArray} {x : RS} (h : RdAt w r s x) : RdFacts w r s x := by
  unfold RdAt rdCells at h
  refine ⟨?_, ?_, ?_, ?_, ?_, ?_, ?_⟩ <;> (try intro o) <;> simp [World.cell?, World.frozen?, h]

theorem RdAt.upd {l : List Nat} {w w' : World} {r : Nat} {s : ByteArray} {x : RS} (h : RdAt w r s x) (u : Upd l w w') (hr : r ∉ l) : RdAt w' r s x := by
  unfold RdAt at *
  rw [u.block r ?_ hr]; exact h
  rcases Nat.lt_or_ge r w.heap.size with h1 | h1
  · exact h1
  · rw [Array.getElem?_eq_none h1] at h; cases h

theorem RdAt.set1 {w : World} {r : Nat} {s : ByteArray} {x : RS} (h : RdAt w r s x) (v : Nat) : RdAt (w.setCell ⟨r, 1, none⟩ (.int .i64 v)) r s { x with i := v } := heap_set h 1 _
theorem RdAt.set2 {w : World} {r : Nat} {s : ByteArray} {x : RS} (h : RdAt w r s x) (v : Int) : RdAt (w.setCell ⟨r, 2, none⟩ (.int .i64 v)) r s { x with e := v } := heap_set h 2 _
theorem RdAt.set3 {w : World} {r : Nat} {s : ByteArray} {x : RS} (h : RdAt w r s x) (v : Int) : RdAt (w.setCell ⟨r, 3, none⟩ (.int .i64 v)) r s { x with a := v } := heap_set h 3 _
theorem RdAt.set4 {w : World} {r : Nat} {s : ByteArray} {x : RS} (h : RdAt w r s x) (v : Int) : RdAt (w.setCell ⟨r, 4, none⟩ (.int .i64 v)) r s { x with d := v } := heap_set h 4 _
theorem RdAt.set5 {w : World} {r : Nat} {s : ByteArray} {x : RS} (h : RdAt w r s x) (v : Int) : RdAt (w.setCell ⟨r, 5, none⟩ (.int .i64 v)) r s { x with t := v } := heap_set h 5 _

set_option maxHeartbeats 400000 in
theorem fail_any (r : Nat) (s : ByteArray) (x : RS) (e at' : Int) (w : World) (h : RdAt w r s x) :
    Calls Tryd.prog 18 #[.pointer (some ⟨r, 0, none⟩), .int .i64 e, .int .i64 at'] w fun k w' => k = .returned (.tuple #[]) ∧ Upd [r] w w' ∧ RdAt w' r s (x.fail e at') := by
  obtain ⟨c0, c1, c2, c3, c4, c5, fz⟩ := h.facts
  have hh : Hid (RdAt w r s x) := h
  clear h
  by_cases he : x.e = 0
  · have hb : (x.e == 0) = true := by simp [he]
    go_enter Tryd.func18, Tryd.ntmps18
    go_wp2
    go_end0
    exact ⟨rfl, ((Upd.refl _ _).setCell (by simp) _).setCell (by simp) _, by rw [RS.fail_ok he]; exact (hh.out.set2 e).set3 at'⟩
  · have hb : (x.e == 0) = false := by simp [he]
    go_enter Tryd.func18, Tryd.ntmps18
    go_wp2
    go_end0
    exact ⟨rfl, Upd.refl _ _, by rw [RS.fail_no he]; exact hh.out⟩

/-- The byte at hand, as the document's reader sees it. -/
def atB (s : ByteArray) (x : RS) : Bool := decide (x.e = 0) && decide (x.i < s.size)
def atV (s : ByteArray) (x : RS) : Int := if atB s x then Sp.byteAt s x.i else 0

set_option maxHeartbeats 400000 in
theorem at_any (r : Nat) (s : ByteArray) (x : RS) (w : World) (h : RdAt w r s x) (_hs : s.size ≤ 200) :
    Calls Tryd.prog 50 #[.pointer (some ⟨r, 0, none⟩)] w fun k w' => k = .returned (.tuple #[.int .u8 (atV s x), .bool (atB s x)]) ∧ ∃ n, w' = w.drewN n := by
  obtain ⟨c0, c1, c2, c3, c4, c5, fz⟩ := h.facts
  clear h
  by_cases he : x.e = 0
  · have hb : (x.e != 0) = false := by simp [he]
    by_cases hi : x.i < s.size
    · have hd : decide ((s.size : Int) ≤ x.i) = false := by simp; omega
      go_enter Tryd.func50, Tryd.ntmps50
      go_wp2
      go_quiet (fail)
      go_wp2
      go_quiet (fail)
      go_wp2
      go_ret2
      exact ⟨tup2 (int_eq (by simp [atV, atB, he, hi, Sp.byteAt_in])) (bool_eq (by simp [atB, he, hi])), _, World.drewN_drewN _ _ _⟩
    · have hd : decide ((s.size : Int) ≤ x.i) = true := by simp; omega
      go_enter Tryd.func50, Tryd.ntmps50
      go_wp2
      go_quiet (fail)
      go_wp2
      go_ret2
      exact ⟨tup2 (int_eq (by simp [atV, atB, hi])) (bool_eq (by simp [atB, hi])), _, rfl⟩
  · have hb : (x.e != 0) = true := by simp [he]
    go_enter Tryd.func50, Tryd.ntmps50
    go_wp2
    go_quiet (fail)
    go_wp2
    go_ret2
    exact ⟨tup2 (int_eq (by simp [atV, atB, he])) (bool_eq (by simp [atB, he])), _, rfl⟩

theorem RdAt.drewN {w : World} {r : Nat} {s : ByteArray} {x : RS} (h : RdAt w r s x) (n : Nat) : RdAt (w.drewN n) r s x := h

/-- Does this byte stand at hand? -/
def isB (s : ByteArray) (x : RS) (c : Int) : Bool := decide (x.e = 0) && Sp.isAt s x.i c

theorem isB_at {s : ByteArray} {x : RS} {c : Int} (h : isB s x c = true) : x.e = 0 ∧ x.i < s.size ∧ Sp.byteAt s x.i = c := by
  simp [isB, Sp.isAt] at h; exact ⟨h.1, h.2.1, h.2.2⟩
theorem atB_at {s : ByteArray} {x : RS} (h : atB s x = true) : x.e = 0 ∧ x.i < s.size := by simp [atB] at h; exact h
theorem isB_eq (s : ByteArray) (x : RS) (c : Int) : isB s x c = (atB s x && decide (atV s x = c)) := by
  unfold isB atV
  by_cases h : atB s x = true
  · have := atB_at h; rw [if_pos h]; simp [h, Sp.isAt, this]
  · rw [if_neg h]; simp at h; rw [h]; simp [atB] at h
    by_cases he : x.e = 0
    · have := h he; simp [Sp.isAt]; omega
    · simp [he]

set_option maxHeartbeats 400000 in
theorem is_any (r : Nat) (s : ByteArray) (x : RS) (c : Int) (w : World) (h : RdAt w r s x) (hs : s.size ≤ 200) :
    Calls Tryd.prog 35 #[.pointer (some ⟨r, 0, none⟩), .int .u8 c] w fun k w' => k = .returned (.bool (isB s x c)) ∧ Upd [r] w w' ∧ RdAt w' r s (x.adv (isB s x c)) := by
  obtain ⟨c0, c1, c2, c3, c4, c5, fz⟩ := h.facts
  have hh : Hid (RdAt w r s x) := h
  clear h
  by_cases ha : atB s x = true
  · have hi : x.i < s.size := (atB_at ha).2
    by_cases hv : atV s x = c
    · have hv' : (atV s x != c) = false := by simp [hv]
      have HV : Hid (isB s x c = true) := by show _ = _; rw [isB_eq]; simp [hv, ha]
      clear hv
      go_enter Tryd.func35, Tryd.ntmps35
      go_wp2_with fail
      refine (at_any r s x _ hh.out hs).mono ?_
      rintro e w' ⟨rfl, n, rfl⟩
      go_wp2
      go_ret
      exact ⟨ret_bool HV.out.symm, (drewN_upd _ _ _).setCell (by simp) _, by rw [HV.out]; exact (hh.out.drewN n).set1 (x.i + 1)⟩
    · have hv' : (atV s x != c) = true := by simp [hv]
      have HV : Hid (isB s x c = false) := by show _ = _; rw [isB_eq]; simp [hv]
      clear hv
      go_enter Tryd.func35, Tryd.ntmps35
      go_wp2_with fail
      refine (at_any r s x _ hh.out hs).mono ?_
      rintro e w' ⟨rfl, n, rfl⟩
      go_wp2
      go_ret
      exact ⟨ret_bool HV.out.symm, drewN_upd _ _ _, by rw [HV.out]; exact hh.out.drewN n⟩
  · have ha : atB s x = false := by simpa using ha
    have HV : Hid (isB s x c = false) := by show _ = _; rw [isB_eq]; simp [ha]
    go_enter Tryd.func35, Tryd.ntmps35
    go_wp2_with fail
    refine (at_any r s x _ hh.out hs).mono ?_
    rintro e w' ⟨rfl, n, rfl⟩
    go_wp2
    go_ret
    exact ⟨ret_bool HV.out.symm, drewN_upd _ _ _, by rw [HV.out]; exact hh.out.drewN n⟩

def sgs : ByteArray := ⟨#[92, 40, 41, 91, 93, 123, 125, 42, 43, 63, 124, 46]⟩
theorem sg_yes (k : Nat) (hk : k < sgs.size) (c : Int) (h : ((sgs[k].toNat : Int) == c) = true) : Sp.sign c = true := by
  have hk' : k < 12 := hk
  rcases (by omega : k = 0 ∨ k = 1 ∨ k = 2 ∨ k = 3 ∨ k = 4 ∨ k = 5 ∨ k = 6 ∨ k = 7 ∨ k = 8 ∨ k = 9 ∨ k = 10 ∨ k = 11) with rfl | rfl | rfl | rfl | rfl | rfl | rfl | rfl | rfl | rfl | rfl | rfl <;>
    (rw [beq_iff_eq] at h; rw [← h]; rfl)
theorem cont_skip {a c : Int} {l : List Int} (h : (a == c) = false) : (a :: l).contains c = l.contains c := by
  have h' : a ≠ c := by simpa using h
  rw [List.contains_cons]; simp [Ne.symm h']
theorem sg_no (k : Nat) (hk : k < sgs.size) (c : Int) (h : ((sgs[k].toNat : Int) == c) = false) (hq : Sp.sign c = (List.drop k [92, 40, 41, 91, 93, 123, 125, 42, 43, 63, 124, 46]).contains c) : Sp.sign c = (List.drop (k + 1) [92, 40, 41, 91, 93, 123, 125, 42, 43, 63, 124, 46]).contains c := by
  have hk' : k < 12 := hk
  rcases (by omega : k = 0 ∨ k = 1 ∨ k = 2 ∨ k = 3 ∨ k = 4 ∨ k = 5 ∨ k = 6 ∨ k = 7 ∨ k = 8 ∨ k = 9 ∨ k = 10 ∨ k = 11) with rfl | rfl | rfl | rfl | rfl | rfl | rfl | rfl | rfl | rfl | rfl | rfl <;>
    exact hq.trans (cont_skip h)

set_option maxHeartbeats 400000 in
theorem sign_any (c : Int) (w : World) :
    Calls Tryd.prog 51 #[.int .u8 c] w fun e w' => e = .returned (.bool (Sp.sign c)) ∧ w' = w := by
  go_enter Tryd.func51, Tryd.ntmps51
  go_wp2
  go_loop [4] (fun i => ∃ k : Nat, k ≤ 12 ∧ i = .int .i64 k ∧ Hid (Sp.sign c = (List.drop k [92, 40, 41, 91, 93, 123, 125, 42, 43, 63, 124, 46]).contains c)) (fun i => 12 - (intOf i).toNat)
  case atStart => exact ⟨0, by omega, rfl, rfl⟩
  case round =>
    obtain ⟨k, hk, rfl, HQ⟩ := hrel
    by_cases hlt : k < 12
    · go_wp2
      · go_ret
        exact ⟨ret_bool (sg_yes k hlt c ‹_›).symm, rfl⟩
      · exact ⟨⟨k + 1, by omega, by go_num, sg_no k hlt c ‹_› HQ.out⟩, by simp [intOf]; omega⟩
    · have hk' : k = 12 := by omega
      subst hk'
      go_wp2
      go_ret
      exact ⟨ret_bool HQ.out.symm, rfl⟩
end Go.Proofs.YtcpfpnjkfahjcaaDoor
