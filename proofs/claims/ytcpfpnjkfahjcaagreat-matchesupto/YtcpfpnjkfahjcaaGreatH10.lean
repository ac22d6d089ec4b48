import Derived.Test.YtcpfpnjkfahjcaaGreatH09
import Derived.Test.YtcpfpnjkfahjcaaGreatH01
set_option linter.unusedSimpArgs false
set_option linter.unusedVariables false
namespace Go.Proofs.YtcpfpnjkfahjcaaGreat
open Go.RowKit

/-- A whole pattern, but for its size. -/
def wholeR (s : ByteArray) : Sp.Res (Tr × Sp.At) := match Sp.choice s 9 ⟨0, 0⟩ with
  | .error f => .error f
  | .ok (t, y) => if y.i < s.size then .error (3, y.i) else .ok (t, y)

set_option maxHeartbeats 800000 in
theorem pWhole_any (r : Nat) (s : ByteArray) (w : World) (h : PdAt w r s ⟨0, 0, 0, 0, 0⟩) (hs : s.size ≤ 200) :
    Calls Tryz.prog 41 #[.pointer (some ⟨r, 0, none⟩)] w (PNodeOut r s ⟨0, 0, 0, 0, 0⟩ w (wholeR s)) := by
  have hr := lt_of_heap h
  have hh : Hid (PdAt w r s ⟨0, 0, 0, 0, 0⟩) := h
  clear h
  go_enter Tryz.func41, Tryz.ntmps41
  go_wp2_with fail
  refine (pChoice_all 9 (by omega) (by omega) r s ⟨0, 0, 0, 0, 0⟩ _ (by exact hh.out) hs (by simp) (by simp) (by simp) (by simp)).mono ?_
  rintro e w1 ⟨hu, hq⟩
  have HU1 : Hid (Upd [r] w w1) := hu
  clear hu
  revert hq
  cases hc : Sp.choice s 9 ⟨0, 0⟩ with
  | error p =>
    obtain ⟨e1, a1⟩ := p
    rintro ⟨i', t', rfl, hf⟩
    have HR : Hid (wholeR s = .error (e1, a1)) := by show _ = _; unfold wholeR; rw [hc]
    clear hc
    go_wp2_with fail
    go_ret2
    exact PNodeOut.mk_error _ _ i' t' HR.out HU1.out rfl hf
  | ok p =>
    obtain ⟨t, y⟩ := p
    rintro ⟨p, rfl, hn, hf⟩
    have HC : Hid (Sp.choice s 9 ⟨0, 0⟩ = .ok (t, y)) := hc
    obtain ⟨hy1, hy2, hy3, hy4⟩ := Sp.choice_good s 9 _ _ _ hc (by simp) (by simp) (by simp)
    have HF1 : Hid (PdAt w1 r s ⟨y.i, 0, 0, 0, y.t⟩) := hf
    have HN1 : Hid (NodesAt w1 (fun k => w.heap.size ≤ k) [p] [t]) := hn
    obtain ⟨c0, c1, c2, c3, c4, c5, fz⟩ := HF1.out.facts
    clear hf hn hc
    unfold ptr
    by_cases hlt : y.i < s.size
    · have HR : Hid (wholeR s = .error (3, y.i)) := by show _ = _; unfold wholeR; rw [HC.out]; simp [hlt]
      go_wp2_with fail
      refine (pAtEnd_no r s ⟨y.i, 0, 0, 0, y.t⟩ _ (by exact HF1.out) hlt).mono ?_
      rintro e w2 ⟨rfl, n2, rfl⟩
      go_wp2_with fail
      refine (pRefuse_any r s ⟨y.i, 0, 0, 0, y.t⟩ _ _ _ (by exact HF1.out)).mono ?_
      rintro e w3 ⟨rfl, hu3, hf3⟩
      go_wp2_with fail
      go_ret2
      exact PNodeOut.mk_error _ _ y.i y.t HR.out ((HU1.out.trans (drewN_upd _ _ _)).trans hu3) rfl hf3
    · have HE : Hid (y.i = s.size) := by show _ = _; omega
      have HR : Hid (wholeR s = .ok (t, y)) := by show _ = _; unfold wholeR; rw [HC.out]; simp [hlt]
      go_wp2_with fail
      refine (pAtEnd_yes r s ⟨y.i, 0, 0, 0, y.t⟩ _ (by exact HF1.out) HE.out).mono ?_
      rintro e w2 ⟨rfl, n2, rfl⟩
      go_wp2_with fail
      go_ret2
      exact PNodeOut.mk_ok _ _ p HR.out (HU1.out.trans (drewN_upd _ _ _)) rfl (NodesAt.same _ _ HN1.out (fun _ _ _ => rfl)) (HF1.out.drewN n2)

/-- What reading a pattern leaves. -/
def PReadOut (w : World) (res : Sp.Res (Tr × Int)) (k : Ending) (w' : World) : Prop :=
  Upd [] w w' ∧ match res with
  | .ok (t, n) => ∃ p, k = .returned (.tuple #[ptr p, .int .i64 n, .agg #[.int .i64 0, .int .i64 0]]) ∧ NodesAt w' (fun k => w.heap.size ≤ k) [p] [t]
  | .error (e, a) => k = .returned (.tuple #[.pointer none, .int .i64 0, .agg #[.int .i64 e, .int .i64 a]])
theorem PReadOut.mk_ok {w w' : World} {res : Sp.Res (Tr × Int)} {k : Ending} (t : Tr) (n : Int) (p : Nat) (h : res = .ok (t, n)) (u : Upd [] w w') (hk : k = .returned (.tuple #[ptr p, .int .i64 n, .agg #[.int .i64 0, .int .i64 0]])) (hn : NodesAt w' (fun k => w.heap.size ≤ k) [p] [t]) : PReadOut w res k w' := by
  subst h; exact ⟨u, p, hk, hn⟩
theorem PReadOut.mk_error {w w' : World} {res : Sp.Res (Tr × Int)} {k : Ending} (e a : Int) (h : res = .error (e, a)) (u : Upd [] w w') (hk : k = .returned (.tuple #[.pointer none, .int .i64 0, .agg #[.int .i64 e, .int .i64 a]])) : PReadOut w res k w' := by
  subst h; exact ⟨u, hk⟩
theorem PdAt.new {w : World} {s : ByteArray} {x : RS} {c : Array Value} {p : Nat} (hc : c = pdCells s x) (hp : p = w.heap.size) : PdAt (w.alloc (.cells c 111)) p s x := by
  subst hp hc; show (w.heap.push _)[w.heap.size]? = _; simp
theorem pread_long {s : ByteArray} (h : 200 < s.size) : Sp.read s = .error (2, 0) := by unfold Sp.read; rw [if_pos h]
theorem pread_err {s : ByteArray} {f : Sp.Fault} (h : ¬ 200 < s.size) (hw : wholeR s = .error f) : Sp.read s = .error f := by
  unfold Sp.read; rw [if_neg h]; unfold wholeR at hw
  cases hc : Sp.choice s 9 ⟨0, 0⟩ with
  | error g => rw [hc] at hw; simp only at hw ⊢; cases hw; rfl
  | ok p =>
    obtain ⟨t, y⟩ := p
    rw [hc] at hw; simp only at hw ⊢
    split at hw
    · rename_i q; rw [if_pos q]; cases hw; rfl
    · cases hw
theorem pread_ok {s : ByteArray} {t : Tr} {y : Sp.At} (h : ¬ 200 < s.size) (hw : wholeR s = .ok (t, y)) : Sp.read s = if Sp.size t > 60 then .error (7, 0) else .ok (t, y.t) := by
  unfold Sp.read; rw [if_neg h]; unfold wholeR at hw
  cases hc : Sp.choice s 9 ⟨0, 0⟩ with
  | error g => rw [hc] at hw; cases hw
  | ok p =>
    obtain ⟨t', y'⟩ := p
    rw [hc] at hw; simp only at hw ⊢
    split at hw
    · cases hw
    · rename_i q; cases hw; rw [if_neg q]

theorem pread_fin {w w1 w2 : World} {res : Sp.Res (Tr × Int)} {k : Ending} {t : Tr} {n : Int} {p : Nat} (h : res = .ok (t, n)) (hk : k = .returned (.tuple #[ptr p, .int .i64 n, .agg #[.int .i64 0, .int .i64 0]])) (hu : Upd [] w w1) (hn : NodesAt w1 (fun k => w.heap.size + 2 ≤ k) [p] [t]) (hu2 : Upd [w.heap.size] w1 w2) : PReadOut w res k w2 :=
  PReadOut.mk_ok _ _ p h (hu.hide hu2 (Nat.le_refl _)) hk (NodesAt.mono _ _ (hn.upd hu2 (fun k hk => by simp at hk; omega)) (fun k hk _ => by omega))

set_option maxHeartbeats 800000 in
theorem pRead_any (s : ByteArray) (w : World) :
    Calls Tryz.prog 22 #[.string s] w (PReadOut w (Sp.read s)) := by
  by_cases hl : 200 < s.size
  · have HR : Hid (Sp.read s = .error (2, 0)) := pread_long hl
    have hl' : (200 : Int) < s.size := by omega
    go_enter Tryz.func22, Tryz.ntmps22
    go_wp2_with fail
    refine bodyPost_ret (v := .tuple #[.pointer none, .int .i64 0, .agg #[.int .i64 2, .int .i64 0]]) (by simp [results, Tryz.results22, go_sem]) rfl ?_
    exact PReadOut.mk_error _ _ HR.out (by (repeat (first | exact Upd.refl _ _ | refine Upd.drewN ?_ | refine Upd.drew ?_ | refine Upd.setCell ?_ (by simp) _ | refine Upd.alloc ?_ _))) rfl
  · have hs : s.size ≤ 200 := by omega
    have hl' : ¬ (200 : Int) < s.size := by omega
    have HNL : Hid (¬ 200 < s.size) := hl
    have hh : Hid (PdAt ((w.alloc (.cells #[.int .i64 0, .int .i64 0] 69)).alloc (.cells (pdCells s ⟨0, 0, 0, 0, 0⟩) 111)) (w.heap.size + 1) s ⟨0, 0, 0, 0, 0⟩) := PdAt.new rfl (by simp)
    go_enter Tryz.func22, Tryz.ntmps22
    go_wp2_with fail
    refine (pWhole_any (w.heap.size + 1) s _ (by exact hh.out) hs).mono ?_
    rintro e w1 ⟨hu, hq⟩
    have HU1 : Hid (Upd [] w w1) := (((Upd.refl [] w).alloc _).alloc _).hide hu (by simp)
    have hsz1 : w.heap.size + 2 ≤ w1.heap.size := by have := hu.size; simp at this; omega
    have hb : w1.heap[w.heap.size]? = some (.cells #[.int .i64 0, .int .i64 0] 69 (0, 0)) := by
      rw [hu.block w.heap.size (by simp; omega) (by simp), Below.heap_alloc _ _ _ (by simp)]
      show (w.heap.push _)[w.heap.size]? = _; simp
    have b0 : w1.cell? ⟨w.heap.size, 0, none⟩ = some (.int .i64 0) := by simp [World.cell?, hb]
    have b1 : w1.cell? ⟨w.heap.size, 1, none⟩ = some (.int .i64 0) := by simp [World.cell?, hb]
    have bz : ∀ o, w1.frozen? ⟨w.heap.size, o, none⟩ = false := by intro o; simp [World.frozen?, hb]
    clear hu hb
    revert hq
    cases hw : wholeR s with
    | error p =>
      obtain ⟨e1, a1⟩ := p
      rintro ⟨i', t', rfl, hf⟩
      have HR : Hid (Sp.read s = .error (e1, a1)) := pread_err HNL.out hw
      obtain ⟨c0, c1, c2, c3, c4, c5, fz⟩ := PdAt.facts hf
      have c4' : w1.cell? ⟨w.heap.size + 1, 4, none⟩ = some (.int .i64 e1) := c4
      have c5' : w1.cell? ⟨w.heap.size + 1, 5, none⟩ = some (.int .i64 a1) := c5
      clear hw c4 c5 hf
      go_wp2_with fail
      go_region
      go_wp2_with fail
      refine bodyPost_ret (v := .tuple #[.pointer none, .int .i64 0, .agg #[.int .i64 e1, .int .i64 a1]]) (by simp [results, Tryz.results22, go_sem, b0, b1, bz]) rfl ?_
      exact PReadOut.mk_error _ _ HR.out (HU1.out.hide (q := w.heap.size) (by (repeat (first | exact Upd.refl _ _ | refine Upd.drewN ?_ | refine Upd.drew ?_ | refine Upd.setCell ?_ (by simp) _ | refine Upd.alloc ?_ _))) (Nat.le_refl _)) rfl
    | ok p =>
      obtain ⟨t, y⟩ := p
      rintro ⟨p, rfl, hn, hf⟩
      have HN1 : Hid (NodesAt w1 (fun k => w.heap.size + 2 ≤ k) [p] [t]) := NodesAt.mono _ _ hn (fun k hk _ => by have hk' : ((w.alloc _).alloc _).heap.size ≤ k := hk; simp at hk'; omega)
      have HR : Hid (Sp.read s = if Sp.size t > 60 then .error (7, 0) else .ok (t, y.t)) := pread_ok HNL.out hw
      have hz := nodePsz HN1.out
      obtain ⟨c0, c1, c2, c3, c4, c5, fz⟩ := PdAt.facts hf
      have c3' : w1.cell? ⟨w.heap.size + 1, 3, none⟩ = some (.int .i64 y.t) := c3
      clear hw hn c3 hf
      unfold ptr
      by_cases h60 : 60 < psz t
      · have HR' : Hid (Sp.read s = .error (7, 0)) := by show _ = _; rw [HR.out, if_pos (by unfold psz at h60; omega)]
        go_wp2_with fail
        refine bodyPost_ret (v := .tuple #[.pointer none, .int .i64 0, .agg #[.int .i64 7, .int .i64 0]]) (by simp [results, Tryz.results22, go_sem, b0, b1, bz]) rfl ?_
        exact PReadOut.mk_error _ _ HR'.out (HU1.out.hide (q := w.heap.size) (by (repeat (first | exact Upd.refl _ _ | refine Upd.drewN ?_ | refine Upd.drew ?_ | refine Upd.setCell ?_ (by simp) _ | refine Upd.alloc ?_ _))) (Nat.le_refl _)) rfl
      · have HR' : Hid (Sp.read s = .ok (t, y.t)) := by show _ = _; rw [HR.out, if_neg (by unfold psz at h60; omega)]
        go_wp2_with fail
        go_region
        go_wp2_with fail
        refine bodyPost_ret (v := .tuple #[.pointer (some ⟨p, 0, none⟩), .int .i64 y.t, .agg #[.int .i64 0, .int .i64 0]]) (by simp [results, Tryz.results22, go_sem, b0, b1, bz]) rfl ?_
        refine pread_fin HR'.out rfl HU1.out HN1.out ?_
        (repeat (first | exact Upd.refl _ _ | refine Upd.drewN ?_ | refine Upd.drew ?_ | refine Upd.setCell ?_ (by simp) _ | refine Upd.alloc ?_ _))
end Go.Proofs.YtcpfpnjkfahjcaaGreat
