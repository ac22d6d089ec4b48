import Derived.Test.YtcpfpnjkfahjcaaDoorH01
set_option linter.unusedSimpArgs false
set_option linter.unusedVariables false
namespace Go.Proofs.YtcpfpnjkfahjcaaDoor
open Go.RowKit

/-- The program's reader, as it lies in memory. -/
def pdCells (s : ByteArray) (x : RS) : Array Value := #[.string s, .int .i64 x.i, .int .i64 x.d, .int .i64 x.t, .int .i64 x.e, .int .i64 x.a]
def PdAt (w : World) (r : Nat) (s : ByteArray) (x : RS) : Prop := w.heap[r]? = some (.cells (pdCells s x) 56 (0, 0))
structure PdFacts (w : World) (r : Nat) (s : ByteArray) (x : RS) : Prop where
  c0 : w.cell? ⟨r, 0, none⟩ = some (.string s)
  c1 : w.cell? ⟨r, 1, none⟩ = some (.int .i64 x.i)
  c2 : w.cell? ⟨r, 2, none⟩ = some (.int .i64 x.d)
  c3 : w.cell? ⟨r, 3, none⟩ = some (.int .i64 x.t)
  c4 : w.cell? ⟨r, 4, none⟩ = some (.int .i64 x.e)
  c5 : w.cell? ⟨r, 5, none⟩ = some (.int .i64 x.a)
  fz : ∀ o, w.frozen? ⟨r, o, none⟩ = false
theorem PdAt.facts {w : World} {r : Nat} {s : ByteArray} {x : RS} (h : PdAt w r s x) : PdFacts w r s x := by
  unfold PdAt pdCells at h
  refine ⟨?_, ?_, ?_, ?_, ?_, ?_, ?_⟩ <;> (try intro o) <;> simp [World.cell?, World.frozen?, h]
theorem PdAt.set1 {w : World} {r : Nat} {s : ByteArray} {x : RS} (h : PdAt w r s x) (v : Nat) : PdAt (w.setCell ⟨r, 1, none⟩ (.int .i64 v)) r s { x with i := v } := heap_set h 1 _
theorem PdAt.set2 {w : World} {r : Nat} {s : ByteArray} {x : RS} (h : PdAt w r s x) (v : Int) : PdAt (w.setCell ⟨r, 2, none⟩ (.int .i64 v)) r s { x with d := v } := heap_set h 2 _
theorem PdAt.set3 {w : World} {r : Nat} {s : ByteArray} {x : RS} (h : PdAt w r s x) (v : Int) : PdAt (w.setCell ⟨r, 3, none⟩ (.int .i64 v)) r s { x with t := v } := heap_set h 3 _
theorem PdAt.set4 {w : World} {r : Nat} {s : ByteArray} {x : RS} (h : PdAt w r s x) (v : Int) : PdAt (w.setCell ⟨r, 4, none⟩ (.int .i64 v)) r s { x with e := v } := heap_set h 4 _
theorem PdAt.set5 {w : World} {r : Nat} {s : ByteArray} {x : RS} (h : PdAt w r s x) (v : Int) : PdAt (w.setCell ⟨r, 5, none⟩ (.int .i64 v)) r s { x with a := v } := heap_set h 5 _

set_option maxHeartbeats 400000 in
theorem pAtEnd_any (r : Nat) (s : ByteArray) (x : RS) (w : World) (h : PdAt w r s x) :
    Calls Tryd.prog 26 #[.pointer (some ⟨r, 0, none⟩)] w fun e w' => e = .returned (.bool (decide (x.i = s.size))) ∧ ∃ n, w' = w.drewN n := by
  obtain ⟨c0, c1, c2, c3, c4, c5, fz⟩ := h.facts
  clear h
  go_enter Tryd.func26, Tryd.ntmps26
  go_wp2
  go_quiet (fail)
  go_wp2
  go_ret
  exact ⟨ret_bool (by rw [Bool.eq_iff_iff]; simp; omega), _, rfl⟩

theorem PdAt.drewN {w : World} {r : Nat} {s : ByteArray} {x : RS} (h : PdAt w r s x) (n : Nat) : PdAt (w.drewN n) r s x := h

theorem pAtEnd_no (r : Nat) (s : ByteArray) (x : RS) (w : World) (h : PdAt w r s x) (hi : x.i < s.size) :
    Calls Tryd.prog 26 #[.pointer (some ⟨r, 0, none⟩)] w fun e w' => e = .returned (.bool false) ∧ ∃ n, w' = w.drewN n :=
  (pAtEnd_any r s x w h).mono fun e w' q => ⟨by rw [q.1]; simp; omega, q.2⟩
theorem pAtEnd_yes (r : Nat) (s : ByteArray) (x : RS) (w : World) (h : PdAt w r s x) (hi : x.i = s.size) :
    Calls Tryd.prog 26 #[.pointer (some ⟨r, 0, none⟩)] w fun e w' => e = .returned (.bool true) ∧ ∃ n, w' = w.drewN n :=
  (pAtEnd_any r s x w h).mono fun e w' q => ⟨by rw [q.1]; simp [hi], q.2⟩

set_option maxHeartbeats 400000 in
theorem pNext_any (r : Nat) (s : ByteArray) (x : RS) (b : Int) (w : World) (h : PdAt w r s x) (hi : x.i ≤ s.size) :
    Calls Tryd.prog 52 #[.pointer (some ⟨r, 0, none⟩), .int .u8 b] w fun e w' => e = .returned (.bool (Sp.isAt s x.i b)) ∧ ∃ n, w' = w.drewN n := by
  obtain ⟨c0, c1, c2, c3, c4, c5, fz⟩ := h.facts
  have hh : Hid (PdAt w r s x) := h
  clear h
  by_cases hlt : x.i < s.size
  · have hlt' : (x.i : Int) < s.size := by omega
    have HR : Hid (Sp.isAt s x.i b = ((s[x.i].toNat : Int) == b)) := by show _ = _; rw [isAt_ok hlt, Sp.byteAt_in s x.i hlt]; rfl
    go_enter Tryd.func52, Tryd.ntmps52
    go_wp2_with fail
    go_quiet ((go_at_call 26; exact Calls.quiet_of (pAtEnd_no r s x _ hh.out hlt)))
    go_wp2
    go_ret
    exact ⟨ret_bool HR.out.symm, _, rfl⟩
  · have HE : Hid (x.i = s.size) := by show _ = _; omega
    have HR : Hid (Sp.isAt s x.i b = false) := isAt_out hlt
    go_enter Tryd.func52, Tryd.ntmps52
    go_wp2_with fail
    go_quiet ((go_at_call 26; exact Calls.quiet_of (pAtEnd_yes r s x _ hh.out HE.out)))
    go_wp2
    go_ret
    exact ⟨ret_bool HR.out.symm, _, rfl⟩

/-- What a call leaves that may pass a byte. -/
def TakeOut (r : Nat) (s : ByteArray) (x : RS) (b : Int) (w : World) (e : Ending) (w' : World) : Prop :=
  e = .returned (.bool (Sp.isAt s x.i b)) ∧ Upd [r] w w' ∧ PdAt w' r s (x.adv (Sp.isAt s x.i b))

set_option maxHeartbeats 400000 in
theorem pTake_any (r : Nat) (s : ByteArray) (x : RS) (b : Int) (w : World) (h : PdAt w r s x) (hi : x.i ≤ s.size) (hs : s.size ≤ 200) :
    Calls Tryd.prog 39 #[.pointer (some ⟨r, 0, none⟩), .int .u8 b] w (TakeOut r s x b w) := by
  obtain ⟨c0, c1, c2, c3, c4, c5, fz⟩ := h.facts
  have hh : Hid (PdAt w r s x) := h
  clear h
  cases hb : Sp.isAt s x.i b with
  | true =>
    have HB : Hid (Sp.isAt s x.i b = true) := hb
    go_enter Tryd.func39, Tryd.ntmps39
    go_wp2_with fail
    refine (pNext_any r s x b _ (by exact hh.out) hi).mono ?_
    rintro e w1 ⟨rfl, n, rfl⟩
    go_wp2
    go_ret
    exact ⟨ret_bool HB.out.symm, by (repeat (first | exact Upd.refl _ _ | refine Upd.drewN ?_ | refine Upd.drew ?_ | refine Upd.setCell ?_ (by simp) _ | refine Upd.alloc ?_ _)), by rw [HB.out]; exact (hh.out.drewN n).set1 (x.i + 1)⟩
  | false =>
    have HB : Hid (Sp.isAt s x.i b = false) := hb
    go_enter Tryd.func39, Tryd.ntmps39
    go_wp2_with fail
    refine (pNext_any r s x b _ (by exact hh.out) hi).mono ?_
    rintro e w1 ⟨rfl, n, rfl⟩
    go_wp2
    go_ret
    exact ⟨ret_bool HB.out.symm, by (repeat (first | exact Upd.refl _ _ | refine Upd.drewN ?_ | refine Upd.drew ?_ | refine Upd.setCell ?_ (by simp) _ | refine Upd.alloc ?_ _)), by rw [HB.out]; exact hh.out.drewN n⟩

/-- A fault is noted. -/
def RefuseOut (r : Nat) (s : ByteArray) (x : RS) (c at' : Int) (w : World) (e : Ending) (w' : World) : Prop :=
  e = .returned (.bool false) ∧ Upd [r] w w' ∧ PdAt w' r s { x with e := c, a := at' }

set_option maxHeartbeats 400000 in
theorem pRefuse_any (r : Nat) (s : ByteArray) (x : RS) (c at' : Int) (w : World) (h : PdAt w r s x) :
    Calls Tryd.prog 27 #[.pointer (some ⟨r, 0, none⟩), .int .i64 c, .int .i64 at'] w (RefuseOut r s x c at' w) := by
  obtain ⟨c0, c1, c2, c3, c4, c5, fz⟩ := h.facts
  have hh : Hid (PdAt w r s x) := h
  clear h
  go_enter Tryd.func27, Tryd.ntmps27
  go_wp2
  go_ret
  exact ⟨rfl, by (repeat (first | exact Upd.refl _ _ | refine Upd.drewN ?_ | refine Upd.drew ?_ | refine Upd.setCell ?_ (by simp) _ | refine Upd.alloc ?_ _)), (hh.out.set4 c).set5 at'⟩

/-- What a call leaves that wants a byte. -/
def NeedOut (r : Nat) (s : ByteArray) (x : RS) (b : Int) (w : World) (e : Ending) (w' : World) : Prop :=
  e = .returned (.bool (Sp.isAt s x.i b)) ∧ Upd [r] w w' ∧ PdAt w' r s (if Sp.isAt s x.i b then { x with i := x.i + 1 } else { x with e := 3, a := x.i })

set_option maxHeartbeats 400000 in
theorem pNeed_any (r : Nat) (s : ByteArray) (x : RS) (b : Int) (w : World) (h : PdAt w r s x) (hi : x.i ≤ s.size) (hs : s.size ≤ 200) :
    Calls Tryd.prog 79 #[.pointer (some ⟨r, 0, none⟩), .int .u8 b] w (NeedOut r s x b w) := by
  have hh : Hid (PdAt w r s x) := h
  clear h
  cases hb : Sp.isAt s x.i b with
  | true =>
    have HB : Hid (Sp.isAt s x.i b = true) := hb
    clear hb
    go_enter Tryd.func79, Tryd.ntmps79
    go_wp2_with fail
    refine (pTake_any r s x b _ (by exact hh.out) hi hs).mono ?_
    rintro e w1 ⟨rfl, hu1, hf1⟩
    rw [HB.out] at hf1 ⊢
    go_wp2_with fail
    go_ret
    exact ⟨ret_bool HB.out.symm, hu1, by rw [HB.out]; exact hf1⟩
  | false =>
    have HB : Hid (Sp.isAt s x.i b = false) := hb
    clear hb
    go_enter Tryd.func79, Tryd.ntmps79
    go_wp2_with fail
    refine (pTake_any r s x b _ (by exact hh.out) hi hs).mono ?_
    rintro e w1 ⟨rfl, hu1, hf1⟩
    rw [HB.out] at hf1 ⊢
    have HF1 : Hid (PdAt w1 r s x) := hf1
    have HU1 : Hid (Upd [r] w w1) := hu1
    obtain ⟨c0, c1, c2, c3, c4, c5, fz⟩ := PdAt.facts HF1.out
    clear hf1 hu1
    go_wp2_with fail
    refine (pRefuse_any r s x _ _ _ (by exact HF1.out)).mono ?_
    rintro e w2 ⟨rfl, hu2, hf2⟩
    go_wp2_with fail
    go_ret
    exact ⟨ret_bool HB.out.symm, HU1.out.trans hu2, by rw [HB.out]; exact hf2⟩
end Go.Proofs.YtcpfpnjkfahjcaaDoor

set_option linter.unusedSimpArgs false
set_option linter.unusedVariables false
namespace Go.Proofs.YtcpfpnjkfahjcaaDoor
open Go.RowKit

theorem digitAt_ok {s : ByteArray} {i : Nat} (hi : i < s.size) : Sp.digitAt s i = (decide (48 ≤ (s[i].toNat : Int)) && decide ((s[i].toNat : Int) ≤ 57)) := by
  simp [Sp.digitAt, hi, Sp.byteAt_in s i hi]
theorem digitAt_out {s : ByteArray} {i : Nat} (hi : ¬ i < s.size) : Sp.digitAt s i = false := by simp [Sp.digitAt, hi]
theorem digitAt_lt {s : ByteArray} {i : Nat} (h : Sp.digitAt s i = true) : i < s.size := by simp [Sp.digitAt] at h; exact h.1.1
theorem digitAt_bd {s : ByteArray} {i : Nat} (h : Sp.digitAt s i = true) : 48 ≤ Sp.byteAt s i ∧ Sp.byteAt s i ≤ 57 := by simp [Sp.digitAt] at h; exact ⟨h.1.2, h.2⟩
theorem PdAt.lt {w : World} {r : Nat} {s : ByteArray} {x : RS} (h : PdAt w r s x) : r < w.heap.size := by
  rcases Nat.lt_or_ge r w.heap.size with h1 | h1
  · exact h1
  · unfold PdAt at h; rw [Array.getElem?_eq_none h1] at h; cases h

set_option maxHeartbeats 400000 in
theorem pDigitNext_any (r : Nat) (s : ByteArray) (x : RS) (w : World) (h : PdAt w r s x) (hi : x.i ≤ s.size) :
    Calls Tryd.prog 87 #[.pointer (some ⟨r, 0, none⟩)] w fun e w' => e = .returned (.bool (Sp.digitAt s x.i)) ∧ ∃ n, w' = w.drewN n := by
  obtain ⟨c0, c1, c2, c3, c4, c5, fz⟩ := h.facts
  have hh : Hid (PdAt w r s x) := h
  clear h
  by_cases hlt : x.i < s.size
  · have hlt' : (x.i : Int) < s.size := by omega
    have HR : Hid (Sp.digitAt s x.i = (decide (48 ≤ (s[x.i].toNat : Int)) && decide ((s[x.i].toNat : Int) ≤ 57))) := digitAt_ok hlt
    by_cases h48 : 48 ≤ (s[x.i].toNat : Int)
    · have hd48 : decide (48 ≤ (s[x.i].toNat : Int)) = true := decide_eq_true h48
      go_enter Tryd.func87, Tryd.ntmps87
      go_wp2_with fail
      go_quiet ((go_at_call 26; exact Calls.quiet_of (pAtEnd_no r s x _ hh.out hlt)))
      go_wp2
      go_ret
      exact ⟨ret_bool (by rw [HR.out, Bool.eq_iff_iff]; simp; omega), _, rfl⟩
    · have hd48 : decide (48 ≤ (s[x.i].toNat : Int)) = false := decide_eq_false h48
      go_enter Tryd.func87, Tryd.ntmps87
      go_wp2_with fail
      go_quiet ((go_at_call 26; exact Calls.quiet_of (pAtEnd_no r s x _ hh.out hlt)))
      go_wp2
      go_ret
      exact ⟨ret_bool (by rw [HR.out, Bool.eq_iff_iff]; simp; omega), _, rfl⟩
  · have HE : Hid (x.i = s.size) := by show _ = _; omega
    have HR : Hid (Sp.digitAt s x.i = false) := digitAt_out hlt
    go_enter Tryd.func87, Tryd.ntmps87
    go_wp2_with fail
    go_quiet ((go_at_call 26; exact Calls.quiet_of (pAtEnd_yes r s x _ hh.out HE.out)))
    go_wp2
    go_ret
    exact ⟨ret_bool HR.out.symm, _, rfl⟩

def DigitOut (r : Nat) (s : ByteArray) (x : RS) (w : World) (e : Ending) (w' : World) : Prop :=
  e = .returned (.int .i64 (Sp.byteAt s x.i - 48)) ∧ Upd [r] w w' ∧ PdAt w' r s { x with i := x.i + 1 }

set_option maxHeartbeats 400000 in
theorem pDigit_any (r : Nat) (s : ByteArray) (x : RS) (w : World) (h : PdAt w r s x) (hs : s.size ≤ 200) (hd : Sp.digitAt s x.i = true) :
    Calls Tryd.prog 88 #[.pointer (some ⟨r, 0, none⟩)] w (DigitOut r s x w) := by
  obtain ⟨c0, c1, c2, c3, c4, c5, fz⟩ := h.facts
  have hh : Hid (PdAt w r s x) := h
  clear h
  have hlt := digitAt_lt hd
  have HB : Hid (Sp.byteAt s x.i = (s[x.i].toNat : Int)) := Sp.byteAt_in s x.i hlt
  have hb0 : 48 ≤ (s[x.i].toNat : Int) := by rw [← HB.out]; exact (digitAt_bd hd).1
  have hb1 : (s[x.i].toNat : Int) ≤ 57 := by rw [← HB.out]; exact (digitAt_bd hd).2
  clear hd
  go_enter Tryd.func88, Tryd.ntmps88
  go_wp2
  go_quiet (fail)
  go_wp2
  go_ret
  exact ⟨ret_int (by rw [HB.out]), by (repeat (first | exact Upd.refl _ _ | refine Upd.drewN ?_ | refine Upd.drew ?_ | refine Upd.setCell ?_ (by simp) _ | refine Upd.alloc ?_ _)), hh.out.set1 (x.i + 1)⟩
end Go.Proofs.YtcpfpnjkfahjcaaDoor

set_option linter.unusedSimpArgs false
set_option linter.unusedVariables false
namespace Go.Proofs.YtcpfpnjkfahjcaaDoor
open Go.RowKit

/-- What a call of the program's that reads a number leaves. -/
def PNumOut (K : IntKind) (r : Nat) (s : ByteArray) (x : RS) (w : World) (res : Sp.Res (Int × Nat)) (k : Ending) (w' : World) : Prop :=
  Upd [r] w w' ∧ match res with
  | .ok (v, j) => k = .returned (.tuple #[.int K v, .bool true]) ∧ PdAt w' r s { x with i := j }
  | .error (e, a) => ∃ v i', k = .returned (.tuple #[.int K v, .bool false]) ∧ PdAt w' r s { x with i := i', e := e, a := a }
theorem PNumOut.mk_ok {K : IntKind} {r : Nat} {s : ByteArray} {x : RS} {w w' : World} {res : Sp.Res (Int × Nat)} {k : Ending} (v : Int) (j : Nat) (h : res = .ok (v, j)) (u : Upd [r] w w') (hk : k = .returned (.tuple #[.int K v, .bool true])) (hr : PdAt w' r s { x with i := j }) : PNumOut K r s x w res k w' := by
  subst h; exact ⟨u, hk, hr⟩
theorem PNumOut.mk_error {K : IntKind} {r : Nat} {s : ByteArray} {x : RS} {w w' : World} {res : Sp.Res (Int × Nat)} {k : Ending} (e a : Int) (v : Int) (i' : Nat) (h : res = .error (e, a)) (u : Upd [r] w w') (hk : k = .returned (.tuple #[.int K v, .bool false])) (hr : PdAt w' r s { x with i := i', e := e, a := a }) : PNumOut K r s x w res k w' := by
  subst h; exact ⟨u, v, i', hk, hr⟩

theorem num_no {s : ByteArray} {i j : Nat} {least n : Int} (hd : Sp.digitAt s i = true) (hn : Sp.digits s i = (n, j)) (h : 20 < n ∨ n < least) : Sp.number least s i = .error (4, i) := by
  unfold Sp.number; rw [hd, if_pos rfl, hn, if_pos h]
theorem num_ok {s : ByteArray} {i j : Nat} {least n : Int} (hd : Sp.digitAt s i = true) (hn : Sp.digits s i = (n, j)) (h : ¬ (20 < n ∨ n < least)) : Sp.number least s i = .ok (n, j) := by
  unfold Sp.number; rw [hd, if_pos rfl, hn, if_neg h]
theorem dig_two {s : ByteArray} {i : Nat} {v u : Int} (hv : v = Sp.byteAt s i - 48) (hu : u = Sp.byteAt s (i + 1) - 48) (h : 0 < v) (hd : Sp.digitAt s (i + 1) = true) : Sp.digits s i = (10 * v + u, i + 2) := by
  subst hv hu; unfold Sp.digits; rw [if_pos ⟨h, hd⟩]
theorem dig_one {s : ByteArray} {i : Nat} {v : Int} (hv : v = Sp.byteAt s i - 48) (h : ¬ (0 < v ∧ Sp.digitAt s (i + 1) = true)) : Sp.digits s i = (v, i + 1) := by
  subst hv; unfold Sp.digits; rw [if_neg (fun q => h ⟨q.1, q.2⟩)]

set_option maxHeartbeats 400000 in
theorem pNumber_no (r : Nat) (s : ByteArray) (x : RS) (least : Int) (w : World) (h : PdAt w r s x) (hi : x.i ≤ s.size) (hs : s.size ≤ 200) (hd : Sp.digitAt s x.i = false) :
    Calls Tryd.prog 77 #[.pointer (some ⟨r, 0, none⟩), .int .i64 least] w (PNumOut .i64 r s x w (Sp.number least s x.i)) := by
  obtain ⟨c0, c1, c2, c3, c4, c5, fz⟩ := h.facts
  have hh : Hid (PdAt w r s x) := h
  have HD : Hid (Sp.digitAt s x.i = false) := hd
  have HR : Hid (Sp.number least s x.i = .error (3, x.i)) := by show _ = _; unfold Sp.number; rw [hd, if_neg (by simp)]
  clear h hd
  go_enter Tryd.func77, Tryd.ntmps77
  go_wp2_with fail
  refine (pDigitNext_any r s x _ (by exact hh.out) hi).mono ?_
  rw [HD.out]
  rintro e w1 ⟨rfl, n, rfl⟩
  go_wp2_with fail
  refine (pRefuse_any r s x _ _ _ (by exact hh.out.drewN n)).mono ?_
  rintro e w2 ⟨rfl, hu, hf⟩
  go_wp2_with fail
  go_ret2
  exact PNumOut.mk_error _ _ 0 x.i HR.out ((drewN_upd _ _ _).trans hu) rfl hf

set_option maxHeartbeats 800000 in
theorem pNumber_yes (r : Nat) (s : ByteArray) (x : RS) (least : Int) (w : World) (h : PdAt w r s x) (hi : x.i ≤ s.size) (hs : s.size ≤ 200) (hd : Sp.digitAt s x.i = true) (hl0 : 0 ≤ least) (hl1 : least ≤ 20) :
    Calls Tryd.prog 77 #[.pointer (some ⟨r, 0, none⟩), .int .i64 least] w (PNumOut .i64 r s x w (Sp.number least s x.i)) := by
  obtain ⟨c0, c1, c2, c3, c4, c5, fz⟩ := h.facts
  have hh : Hid (PdAt w r s x) := h
  have HD : Hid (Sp.digitAt s x.i = true) := hd
  have hlt := digitAt_lt hd
  obtain ⟨v, HV⟩ : ∃ v, Hid (v = Sp.byteAt s x.i - 48) := ⟨_, rfl⟩
  have hv0 : 0 ≤ v := by rw [HV.out]; have := digitAt_bd hd; omega
  have hv1 : v ≤ 9 := by rw [HV.out]; have := digitAt_bd hd; omega
  clear h hd
  go_enter Tryd.func77, Tryd.ntmps77
  go_wp2_with fail
  refine (pDigitNext_any r s x _ (by exact hh.out) hi).mono ?_
  rw [HD.out]
  rintro e w1 ⟨rfl, n, rfl⟩
  go_wp2_with fail
  refine (pDigit_any r s x _ (by exact hh.out.drewN n) hs HD.out).mono ?_
  rintro e w2 ⟨rfl, hu, hf⟩
  rw [← HV.out]
  have HU2 : Hid (Upd [r] w w2) := ((drewN_upd _ _ _).trans hu : Upd [r] w w2)
  have HF2 : Hid (PdAt w2 r s ⟨x.i + 1, x.e, x.a, x.d, x.t⟩) := hf
  obtain ⟨d0, d1, d2, d3, d4, d5, dz⟩ := HF2.out.facts
  clear hu hf c0 c1 c2 c3 c4 c5 fz
  by_cases hz : 0 < v
  · go_wp2_with fail
    refine (pDigitNext_any r s ⟨x.i + 1, x.e, x.a, x.d, x.t⟩ _ (by exact HF2.out) (by show x.i + 1 ≤ _; omega)).mono ?_
    rintro e w3 ⟨rfl, n3, rfl⟩
    cases hd2 : Sp.digitAt s (x.i + 1) with
    | true =>
      have HD2 : Hid (Sp.digitAt s (x.i + 1) = true) := hd2
      obtain ⟨u, HW⟩ : ∃ u, Hid (u = Sp.byteAt s (x.i + 1) - 48) := ⟨_, rfl⟩
      have hu0 : 0 ≤ u := by rw [HW.out]; have := digitAt_bd hd2; omega
      have hu1 : u ≤ 9 := by rw [HW.out]; have := digitAt_bd hd2; omega
      have HN : Hid (Sp.digits s x.i = (10 * v + u, x.i + 2)) := dig_two HV.out HW.out hz hd2
      clear hd2
      go_wp2_with fail
      refine (pDigit_any r s ⟨x.i + 1, x.e, x.a, x.d, x.t⟩ _ (by exact HF2.out.drewN n3) hs HD2.out).mono ?_
      rintro e w4 ⟨rfl, hu, hf⟩
      rw [← HW.out]
      have HU4 : Hid (Upd [r] w w4) := ((HU2.out.trans (drewN_upd _ _ _)).trans hu : Upd [r] w w4)
      have HF4 : Hid (PdAt w4 r s ⟨x.i + 2, x.e, x.a, x.d, x.t⟩) := hf
      clear hu hf
      go_wp2_with (go_at_call 27; refine (pRefuse_any r s ⟨x.i + 2, x.e, x.a, x.d, x.t⟩ _ _ _ (by exact HF4.out)).mono ?_; rintro e w5 ⟨rfl, hu5, hf5⟩)
      all_goals go_ret2
      all_goals first
        | exact PNumOut.mk_error _ _ 0 (x.i + 2) (num_no HD.out HN.out (by omega)) (HU4.out.trans hu5) rfl hf5
        | exact PNumOut.mk_ok _ (x.i + 2) (num_ok HD.out HN.out (by omega)) HU4.out rfl HF4.out
    | false =>
      have HN : Hid (Sp.digits s x.i = (v, x.i + 1)) := dig_one HV.out (by rw [hd2]; simp)
      have HD2 : Hid (Sp.digitAt s (x.i + 1) = false) := hd2
      clear hd2
      go_wp2_with (go_at_call 27; refine (pRefuse_any r s ⟨x.i + 1, x.e, x.a, x.d, x.t⟩ _ _ _ (by exact HF2.out.drewN n3)).mono ?_; rintro e w5 ⟨rfl, hu5, hf5⟩)
      all_goals go_ret2
      all_goals first
        | exact PNumOut.mk_error _ _ 0 (x.i + 1) (num_no HD.out HN.out (by omega)) ((HU2.out.trans (drewN_upd _ _ _)).trans hu5) rfl hf5
        | exact PNumOut.mk_ok _ (x.i + 1) (num_ok HD.out HN.out (by omega)) (HU2.out.trans (drewN_upd _ _ _)) rfl (HF2.out.drewN n3)
  · have HN : Hid (Sp.digits s x.i = (v, x.i + 1)) := dig_one HV.out (fun q => hz q.1)
    go_wp2_with (go_at_call 27; refine (pRefuse_any r s ⟨x.i + 1, x.e, x.a, x.d, x.t⟩ _ _ _ (by exact HF2.out)).mono ?_; rintro e w5 ⟨rfl, hu5, hf5⟩)
    all_goals go_ret2
    all_goals first
      | exact PNumOut.mk_error _ _ 0 (x.i + 1) (num_no HD.out HN.out (by omega)) (HU2.out.trans hu5) rfl hf5
      | exact PNumOut.mk_ok _ (x.i + 1) (num_ok HD.out HN.out (by omega)) HU2.out rfl HF2.out

theorem pNumber_any (r : Nat) (s : ByteArray) (x : RS) (least : Int) (w : World) (h : PdAt w r s x) (hi : x.i ≤ s.size) (hs : s.size ≤ 200) (hl0 : 0 ≤ least) (hl1 : least ≤ 20) :
    Calls Tryd.prog 77 #[.pointer (some ⟨r, 0, none⟩), .int .i64 least] w (PNumOut .i64 r s x w (Sp.number least s x.i)) := by
  cases hd : Sp.digitAt s x.i with
  | true => exact pNumber_yes r s x least w h hi hs hd hl0 hl1
  | false => exact pNumber_no r s x least w h hi hs hd

/-- The most of a count: none, if no digit comes next. -/
def upperR (m : Int) (s : ByteArray) (i : Nat) : Sp.Res (Int × Nat) := if Sp.digitAt s i then Sp.number m s i else .ok (-1, i)

set_option maxHeartbeats 400000 in
theorem pUpper_any (r : Nat) (s : ByteArray) (x : RS) (least : Int) (w : World) (h : PdAt w r s x) (hi : x.i ≤ s.size) (hs : s.size ≤ 200) (hl0 : 0 ≤ least) (hl1 : least ≤ 20) :
    Calls Tryd.prog 78 #[.pointer (some ⟨r, 0, none⟩), .int .i64 least] w (PNumOut .i64 r s x w (upperR least s x.i)) := by
  obtain ⟨c0, c1, c2, c3, c4, c5, fz⟩ := h.facts
  have hh : Hid (PdAt w r s x) := h
  clear h
  cases hd : Sp.digitAt s x.i with
  | true =>
    have HD : Hid (Sp.digitAt s x.i = true) := hd
    have HR : Hid (upperR least s x.i = Sp.number least s x.i) := by show _ = _; unfold upperR; rw [hd, if_pos rfl]
    clear hd
    go_enter Tryd.func78, Tryd.ntmps78
    go_wp2_with fail
    refine (pDigitNext_any r s x _ (by exact hh.out) hi).mono ?_
    rw [HD.out]
    rintro e w1 ⟨rfl, n, rfl⟩
    go_wp2_with fail
    refine (pNumber_any r s x least _ (by exact hh.out.drewN n) hi hs hl0 hl1).mono ?_
    rintro e w2 ⟨hu, hq⟩
    revert hq
    cases hr : Sp.number least s x.i with
    | ok p =>
      obtain ⟨v, j⟩ := p
      rintro ⟨rfl, hf⟩
      have HR' : Hid (upperR least s x.i = .ok (v, j)) := HR.out.trans hr
      clear hr
      go_wp2
      go_ret2
      exact PNumOut.mk_ok v j HR'.out ((drewN_upd _ _ _).trans hu) rfl hf
    | error p =>
      obtain ⟨e1, a1⟩ := p
      rintro ⟨v, i', rfl, hf⟩
      have HR' : Hid (upperR least s x.i = .error (e1, a1)) := HR.out.trans hr
      clear hr
      go_wp2
      go_ret2
      exact PNumOut.mk_error e1 a1 v i' HR'.out ((drewN_upd _ _ _).trans hu) rfl hf
  | false =>
    have HD : Hid (Sp.digitAt s x.i = false) := hd
    have HR : Hid (upperR least s x.i = .ok (-1, x.i)) := by show _ = _; unfold upperR; rw [hd, if_neg (by simp)]
    clear hd
    go_enter Tryd.func78, Tryd.ntmps78
    go_wp2_with fail
    refine (pDigitNext_any r s x _ (by exact hh.out) hi).mono ?_
    rw [HD.out]
    rintro e w1 ⟨rfl, n, rfl⟩
    go_wp2
    go_ret2
    exact PNumOut.mk_ok (-1) x.i HR.out (drewN_upd _ _ _) rfl (hh.out.drewN n)
end Go.Proofs.YtcpfpnjkfahjcaaDoor
