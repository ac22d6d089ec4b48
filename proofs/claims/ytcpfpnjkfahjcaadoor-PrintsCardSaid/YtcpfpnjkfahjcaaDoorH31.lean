import Derived.Test.YtcpfpnjkfahjcaaDoorH30
import Derived.Test.YtcpfpnjkfahjcaaDoorH02

set_option linter.unusedSimpArgs false
set_option linter.unusedVariables false
namespace Go.Proofs.YtcpfpnjkfahjcaaDoor
open Go.RowKit

/-- What the document's 'read' leaves. -/
def ReadOut (s : ByteArray) (w : World) (res : Sp.Res (Tr × Int)) (k : Ending) (w' : World) : Prop :=
  Upd [] w w' ∧ match res with
  | .ok (t, n) => ∃ p r x, k = .returned (.tuple #[ptr p, ptr r]) ∧ PartsAt w' (fun k => w.heap.size ≤ k) [p] [t] ∧ Sp.Made [t] ∧ RdAt w' r s x ∧ x.e = 0 ∧ x.t = n ∧ w.heap.size ≤ r
  | .error (e, a) => e ≠ 0 ∧ ∃ pv r x, k = .returned (.tuple #[.pointer pv, ptr r]) ∧ RdAt w' r s x ∧ x.e = e ∧ x.a = a ∧ w.heap.size ≤ r

theorem Upd.fresh {r : Nat} {w w' : World} (h : Upd [r] w w') (hr : w.heap.size ≤ r) : Upd [] w w' :=
  ⟨h.os, h.tape, h.output, h.size, fun k hk _ => h.block k hk (by simp; omega)⟩

theorem newRd (s : ByteArray) (w : World) : RdAt (w.alloc (.cells #[.string s, .int .i64 0, .int .i64 0, .int .i64 0, .int .i64 0, .int .i64 0, .slice none 0 0, .slice none 0 0] 47)) w.heap.size s ⟨0, 0, 0, 0, 0⟩ := by
  show (w.heap.push _)[w.heap.size]? = _; simp; rfl
theorem readOut_no {s : ByteArray} {w w' : World} {res : Sp.Res (Tr × Int)} {pv : Option Addr} {i r : Nat} {e a d t : Int} (hq : res = .error (e, a)) (he : e ≠ 0) (hu : Upd [r] w w') (hr : w.heap.size ≤ r) (hf : RdAt w' r s ⟨i, e, a, d, t⟩) : ReadOut s w res (.returned (.tuple #[.pointer pv, .pointer (some ⟨r, 0, none⟩)])) w' := by
  subst hq; exact ⟨hu.fresh hr, he, pv, r, _, rfl, hf, rfl, rfl, hr⟩

theorem readOut_ok {s : ByteArray} {w w' : World} {res : Sp.Res (Tr × Int)} {p i : Nat} {t : Tr} {n : Int} (hq : res = .ok (t, n)) (hu : Upd [w.heap.size] w w') (hp : PartsAt w' (fun k => w.heap.size ≤ k) [p] [t]) (hm : Sp.Made [t]) (hf : RdAt w' w.heap.size s ⟨i, 0, 0, 0, n⟩) : ReadOut s w res (.returned (.tuple #[.pointer (some ⟨p, 0, none⟩), .pointer (some ⟨w.heap.size, 0, none⟩)])) w' := by
  subst hq; exact ⟨hu.fresh (Nat.le_refl _), p, _, _, rfl, hp, hm, hf, rfl, rfl, Nat.le_refl _⟩

set_option maxHeartbeats 400000 in
theorem read_long (s : ByteArray) (w : World) (hs : 200 < s.size) :
    Calls Tryd.prog 12 #[.string s] w (ReadOut s w (Sp.read s)) := by
  have HR : Hid (Sp.read s = .error (2, 0)) := by show _ = _; unfold Sp.read; rw [if_pos hs]
  have hs' : (200 : Int) < s.size := by omega
  go_enter Tryd.func12, Tryd.ntmps12
  go_wp2_with fail
  refine (fail_any w.heap.size s ⟨0, 0, 0, 0, 0⟩ _ _ _ (by exact newRd s w)).mono ?_
  rw [RS.fail_ok rfl]
  rintro e w1 ⟨rfl, hu1, hf1⟩
  go_wp2_with fail
  go_ret2
  exact readOut_no HR.out (by decide) (((Upd.refl _ _).alloc _).trans hu1) (Nat.le_refl _) hf1

set_option maxHeartbeats 1000000 in
theorem read_short (s : ByteArray) (w : World) (hs : s.size ≤ 200) :
    Calls Tryd.prog 12 #[.string s] w (ReadOut s w (Sp.read s)) := by
  have HR : Hid (Sp.read s = match Sp.choice s 9 ⟨0, 0⟩ with | .error f => .error f | .ok (t, y) => if y.i < s.size then .error (3, y.i) else if Sp.size t > 60 then .error (7, 0) else .ok (t, y.t)) := by show _ = _; unfold Sp.read; rw [if_neg (by omega)]; try rfl
  have hs' : ¬ (200 : Int) < s.size := by omega
  go_enter Tryd.func12, Tryd.ntmps12
  go_wp2_with fail
  refine (choice_all 9 (by decide) (by decide) w.heap.size s ⟨0, 0, 0, 0, 0⟩ _ (by exact newRd s w) hs rfl (Nat.zero_le _) rfl (by decide) (by decide)).mono ?_
  rintro e w2 ⟨hu2, hq2⟩
  have HU2 : Hid (Upd [w.heap.size] w w2) := ((Upd.refl _ _).alloc _).trans hu2
  clear hu2
  revert hq2
  cases hr2 : Sp.choice s 9 ⟨0, 0⟩
  case error f =>
    obtain ⟨e1, a1⟩ := f
    rintro ⟨he1, p, i', t', ps2, rfl, hp2, hpq, hf2⟩
    have HE1 : Hid (e1 ≠ 0) := he1
    have HR' : Hid (Sp.read s = .error (e1, a1)) := by show _ = _; rw [HR.out, hr2]
    have HF2 : Hid (RdAt w2 w.heap.size s ⟨i', e1, a1, 0, t'⟩) := hf2
    obtain ⟨c0, c1, c2, c3, c4, c5, fz⟩ := hf2.facts
    have hb : (e1 == 0) = false := by simpa using he1
    clear hr2 hf2 hpq he1
    unfold ptr
    go_wp2_with fail
    go_quiet (fail)
    go_wp2_with fail
    go_ret2
    exact readOut_no HR'.out HE1.out HU2.out.drewN (Nat.le_refl _) HF2.out
  case ok f =>
    obtain ⟨t, y⟩ := f
    rintro ⟨p, rfl, hq2, hf2⟩
    have hm := Sp.choice_makes s hs 9 ⟨0, 0⟩ t y hr2 (Nat.zero_le _) (by decide) (by decide)
    have hy := Sp.choice_good s 9 ⟨0, 0⟩ t y hr2 (Nat.zero_le _) (by decide) (by decide)
    have HT2 : Hid (PartsAt w2 (fun k => w.heap.size ≤ k) [p] [t]) := PartsAt.mono _ _ _ _ hq2 (fun k hk _ => by simp at hk; omega)
    have HM : Hid (Sp.Made [t]) := hm
    have HF2 : Hid (RdAt w2 w.heap.size s ⟨y.i, 0, 0, 0, y.t⟩) := hf2
    have HC : Hid (Sp.choice s 9 ⟨0, 0⟩ = .ok (t, y)) := hr2
    obtain ⟨c0, c1, c2, c3, c4, c5, fz⟩ := hf2.facts
    clear hr2 hf2 hq2
    unfold ptr
    by_cases hl : y.i < s.size
    · have HR' : Hid (Sp.read s = .error (3, y.i)) := by show _ = _; rw [HR.out, HC.out]; simp [hl]
      have hd : decide ((y.i : Int) < s.size) = true := by simp; omega
      go_wp2_with fail
      go_quiet (fail)
      go_wp2_with fail
      refine (fail_any w.heap.size s ⟨y.i, 0, 0, 0, y.t⟩ _ _ _ (by exact HF2.out)).mono ?_
      rw [RS.fail_ok rfl]
      rintro e w3 ⟨rfl, hu3, hf3⟩
      have HU3 : Hid (Upd [w.heap.size] w w3) := HU2.out.trans hu3.pre
      have HF3 : Hid (RdAt w3 w.heap.size s ⟨y.i, 3, y.i, 0, y.t⟩) := hf3
      clear hu3 hf3 c0 c1 c2 c3 c4 c5 fz
      obtain ⟨c0, c1, c2, c3, c4, c5, fz⟩ := HF3.out.facts
      go_wp2_with fail
      go_ret2
      exact readOut_no HR'.out (by decide) HU3.out (Nat.le_refl _) HF3.out
    · have hd : decide ((y.i : Int) < s.size) = false := by simp; omega
      have HSZ : Hid (∀ n, SizeC p t (w2.drewN n)) := fun n => size_all (w := w2.drewN n) [t] _ [p] (PartsAt.same _ _ _ HT2.out (fun _ _ _ => rfl)) HM.out.1 HM.out.2 0 p t rfl rfl
      have hbd := Sp.size_bd t HM.out.lab.1 HM.out.lab.2.1.1
      go_wp2_with fail
      go_quiet (fail)
      go_wp2_with fail
      have hcall := HSZ.out
      unfold SizeC at hcall
      refine (hcall _).mono ?_
      clear hcall
      rintro e w3 ⟨rfl, hw3⟩
      have HF3 : Hid (RdAt w3 w.heap.size s ⟨y.i, 0, 0, 0, y.t⟩) := by rw [hw3]; exact HF2.out
      have HU3 : Hid (Upd [w.heap.size] w w3) := by rw [hw3]; exact HU2.out.drewN
      have HT3 : Hid (PartsAt w3 (fun k => w.heap.size ≤ k) [p] [t]) := PartsAt.same _ _ _ HT2.out (fun _ _ _ => by rw [hw3]; rfl)
      clear hw3
      by_cases hz : 60 < Sp.size t
      · have HR' : Hid (Sp.read s = .error (7, 0)) := by show _ = _; rw [HR.out, HC.out]; simp [hl, hz]
        go_wp2_with fail
        refine (fail_any w.heap.size s ⟨y.i, 0, 0, 0, y.t⟩ _ _ _ (by exact HF3.out)).mono ?_
        rw [RS.fail_ok rfl]
        rintro e w4 ⟨rfl, hu4, hf4⟩
        go_wp2_with fail
        go_ret2
        exact readOut_no HR'.out (by decide) (HU3.out.trans hu4) (Nat.le_refl _) hf4
      · have HR' : Hid (Sp.read s = .ok (t, y.t)) := by show _ = _; rw [HR.out, HC.out]; simp [hl, hz]
        go_wp2_with fail
        go_ret2
        exact readOut_ok HR'.out HU3.out HT3.out HM.out HF3.out

theorem read_any (s : ByteArray) (w : World) : Calls Tryd.prog 12 #[.string s] w (ReadOut s w (Sp.read s)) := by
  by_cases hs : s.size ≤ 200
  · exact read_short s w hs
  · exact read_long s w (by omega)
end Go.Proofs.YtcpfpnjkfahjcaaDoor
