import Derived.Test.YtadmlifmcdnhnaaDoorH21
import Derived.Shelf.Strconv.Itoa3
import Derived.Shelf.Strings.BuilderK
import Derived.Test.YtadmlifmcdnhnaaDoorRows
set_option linter.unusedSimpArgs false
set_option linter.unusedVariables false
namespace Go.Proofs.YtadmlifmcdnhnaaDoor
open Go.RowKit

structure PChoiceInv (r : Nat) (s : ByteArray) (i0 : Nat) (e0 a0 : Int) (d : Nat) (t0 : Int) (sub : Sp.At → Sp.Res (Tr × Sp.At)) (w : World) (n : Nat) (l : Value) (wr : World) : Prop where
  upd : Upd [r] w wr
  st : ∃ y ts qs, PdAt wr r s ⟨y.i, e0, a0, d, y.t⟩ ∧ Kds wr w.heap.size l qs ts ∧ Sp.rows sub s d (s.size + 1) [] ⟨i0, t0⟩ = Sp.rows sub s d n ts y ∧ s.size + 1 ≤ n + y.i ∧ y.i ≤ s.size ∧ ts.length ≤ y.i ∧ 0 ≤ y.t ∧ y.t ≤ 9

theorem rows_succ (sub : Sp.At → Sp.Res (Tr × Sp.At)) (s : ByteArray) (d n : Nat) (l : List Tr) (x : Sp.At) : Sp.rows sub s d (n + 1) l x = match Sp.row sub s d x with | .error f => .error f | .ok (t, y) => if Sp.isAt s y.i 124 then Sp.rows sub s d n (l ++ [t]) ⟨y.i + 1, y.t⟩ else .ok (l ++ [t], y) := by rw [Sp.rows]; rfl

set_option maxHeartbeats 2000000 in
theorem pChoice_step (k : Nat) (hk8 : k ≤ 8) (hsub : 1 ≤ k → PChoiceC k) : PChoiceC (k + 1) := by
  intro r s x w h hs hi0 hxd ht0 ht9
  obtain ⟨i0, e0, a0, xd, t0⟩ := x
  simp only at hi0 hxd ht0 ht9
  obtain ⟨d, hd⟩ : ∃ d : Nat, xd = d := ⟨8 - k, by omega⟩
  subst hd
  have hr := lt_of_heap h
  have hh : Hid (PdAt w r s ⟨i0, e0, a0, d, t0⟩) := h
  have HK : Hid ((d : Int) = 8 - (k : Int)) := by show _ = _; omega
  have HSUB : Hid (d < 8 → PChoiceC k) := fun q => hsub (by omega)
  have hd8 : d ≤ 8 := by omega
  have HCH : Hid (Sp.choice s (k + 1) ⟨i0, t0⟩ = match Sp.rows (Sp.choice s k) s d (s.size + 1) [] ⟨i0, t0⟩ with | .error f => .error f | .ok (l, y) => .ok (⟨cLab, l⟩, y)) := by
    show _ = _; rw [Sp.choice, show 8 - k = d by omega]; rfl
  obtain ⟨it, hi1, hi2, hi3, hi4⟩ := pInfoNode
  have HI : Hid (Tryd.prog.info? 34 = some it ∧ it.zero = some (.pointer none) ∧ it.size = 1 ∧ it.bytes = 8) := ⟨hi1, hi2, hi3, hi4⟩
  clear h hxd hsub hi1 hi2 hi3 hi4
  go_enter Tryd.func25, Tryd.ntmps25
  go_wp2_with fail
  go_loopg [4] (s.size + 1) (fun gn l wr => PChoiceInv r s i0 e0 a0 d t0 (Sp.choice s k) w gn l wr)
  case atStart => exact ⟨Upd.refl _ _, ⟨i0, t0⟩, [], [], hh.out, Kds.empty _ _, rfl, by simp, hi0, by simp, ht0, ht9⟩
  case round =>
    obtain ⟨hu, y, ts, qs, hf, hkd, heq, hgn, hyi, hlen, hy0, hy9⟩ := hrel
    clear hh
    obtain ⟨fuel, rfl⟩ : ∃ n, gk = n + 1 := ⟨gk - 1, by omega⟩
    obtain ⟨l, hl⟩ : ∃ l, l = u4 := ⟨u4, rfl⟩
    rw [← hl] at hkd ⊢
    clear hl u4
    have HF : Hid (PdAt wr r s ⟨y.i, e0, a0, d, y.t⟩) := hf
    have HU : Hid (Upd [r] w wr) := hu
    have HD : Hid (Kds wr w.heap.size l qs ts) := hkd
    have HQ : Hid (Sp.rows (Sp.choice s k) s d (s.size + 1) [] ⟨i0, t0⟩ = Sp.rows (Sp.choice s k) s d (fuel + 1) ts y) := heq
    clear hf hu hkd heq
    go_wp2_with fail
    refine (pRow_any r s y.i e0 a0 d y.t _ (by exact HF.out) hyi hs hd8 hy0 hy9 k HSUB.out HK.out).mono ?_
    rintro e w4 ⟨hu4, hq4⟩
    have HW4 : Hid (Upd [r] wr w4) := hu4
    have HU4 : Hid (Upd [r] w w4) := HU.out.trans hu4
    clear hu4
    revert hq4
    cases hp : Sp.row (Sp.choice s k) s d ⟨y.i, y.t⟩ with
    | error p =>
      obtain ⟨e1, a1⟩ := p
      rintro ⟨i', t', rfl, hf4⟩
      have HR : Hid (Sp.choice s (k + 1) ⟨i0, t0⟩ = .error (e1, a1)) := by
        show _ = _; rw [HCH.out, HQ.out, rows_succ, show Sp.row (Sp.choice s k) s d y = _ from hp]
      clear hp
      go_wp2_with fail
      go_ret2
      exact PNodeOut.mk_error _ _ i' t' HR.out HU4.out rfl hf4
    | ok p =>
      obtain ⟨tr, z⟩ := p
      rintro ⟨q, rfl, hn4, hf4⟩
      obtain ⟨hz1, hz2, hz3, hz4⟩ := Sp.row_good (Sp.choice_good s k) _ _ _ hp (by exact hyi) hy0 hy9
      have hz1' : y.i ≤ z.i := hz1
      have HP : Hid (Sp.row (Sp.choice s k) s d y = .ok (tr, z)) := hp
      have HF4 : Hid (PdAt w4 r s ⟨z.i, e0, a0, d, z.t⟩) := hf4
      have HN4 : Hid (NodesAt w4 (fun k => wr.heap.size ≤ k) [q] [tr]) := hn4
      have hsz : w.heap.size ≤ wr.heap.size := HU.out.size
      have hsz4 : wr.heap.size ≤ w4.heap.size := HW4.out.size
      have HD4 : Hid (Kds w4 w.heap.size l qs ts) := HD.out.upd HW4.out hr
      have hql : qs.length ≤ 200 := by have := HD.out.length; omega
      clear hp hf4 hn4 hz1
      unfold ptr
      go_wp2_with (first | (at_builtin; refine wpList_append_own_at _ rfl _ _ 60 rfl w.heap.size 34 it (.pointer none) 1 8 Tryd.underlying60 HI.out.1 HI.out.2.1 HI.out.2.2.1 HI.out.2.2.2 rfl (by decide) _ _ _ rfl (HD4.out.own.alloc _) ⟨w4.heap.size, 0, none⟩ 1 1 [.pointer (some ⟨q, 0, none⟩)] rfl rfl ?c1 ?c2 ?c3 ?c4 ?c5 ?_) | fail)
      case c1 => exact cell_one_new _ _ _
      case c2 => intro u hu; simp at hu; subst hu; rfl
      case c3 => unfold maxLen; omega
      case c4 => omega
      case c5 => simp; omega
      intro v' w5 hown' hgrow hnil hloc
      have HD5 : Hid (Kds w5 w.heap.size v' (qs ++ [q]) (ts ++ [tr])) := HD.out.step HN4.out hsz (fun k hk hl => HW4.out.block k hl (by simp; omega)) hsz4 hown' hgrow hloc
      have HU5 : Hid (Upd [r] w w5) := (HU4.out.alloc _).shrink (Upd.of_grown hgrow) (fun g hg => by
        right; have e : l.ownBlock = some g := by simpa using hg
        exact (ownBlock_lt HD.out.own e).2)
      have HF5 : Hid (PdAt w5 r s ⟨z.i, e0, a0, d, z.t⟩) := by
        show w5.heap[r]? = _
        rw [hgrow.block r (by simp; omega) (fun e => by have := (ownBlock_lt HD.out.own e.symm).2; omega), Below.heap_alloc _ _ _ (by omega)]
        exact HF4.out
      clear hown' hgrow hnil hloc HD4 HF4 HN4
      cases h1 : Sp.isAt s z.i 124 with
      | true =>
        have H1 : Hid (Sp.isAt s z.i 124 = true) := h1
        have hlt := Sp.isAt_lt h1
        have HR : Hid (Sp.rows (Sp.choice s k) s d (s.size + 1) [] ⟨i0, t0⟩ = Sp.rows (Sp.choice s k) s d fuel (ts ++ [tr]) ⟨z.i + 1, z.t⟩) := by
          show _ = _; rw [HQ.out, rows_succ, HP.out]; simp only [h1]; rfl
        clear h1
        go_wp2_with fail
        refine (pTake_yes r s ⟨z.i, e0, a0, d, z.t⟩ _ _ (by exact HF5.out) hs H1.out).mono ?_
        rintro e w6 ⟨rfl, hu6, hf6⟩
        have HU6 : Hid (Upd [r] w w6) := HU5.out.trans hu6
        have HD6 : Hid (Kds w6 w.heap.size v' (qs ++ [q]) (ts ++ [tr])) := HD5.out.upd hu6 hr
        have HF6 : Hid (PdAt w6 r s ⟨z.i + 1, e0, a0, d, z.t⟩) := hf6
        clear hu6 hf6
        go_wp2_with fail
        go_roundg fuel
        case measure => omega
        case rel => exact ⟨HU6.out, ⟨z.i + 1, z.t⟩, _, _, HF6.out, HD6.out, HR.out, by simp; omega, hlt, by simp; omega, hz3, hz4⟩
      | false =>
        have H1 : Hid (Sp.isAt s z.i 124 = false) := h1
        have HR : Hid (Sp.choice s (k + 1) ⟨i0, t0⟩ = .ok (⟨cLab, ts ++ [tr]⟩, z)) := by
          show _ = _; rw [HCH.out, HQ.out, rows_succ, HP.out]; simp only [h1]; rfl
        clear h1
        go_wp2_with fail
        refine (pTake_no r s ⟨z.i, e0, a0, d, z.t⟩ _ _ (by exact HF5.out) (by exact hz2) hs H1.out).mono ?_
        rintro e w6 ⟨rfl, hu6, hf6⟩
        have HU6 : Hid (Upd [r] w w6) := HU5.out.trans hu6
        have HD6 : Hid (Kds w6 w.heap.size v' (qs ++ [q]) (ts ++ [tr])) := HD5.out.upd hu6 hr
        have HF6 : Hid (PdAt w6 r s ⟨z.i, e0, a0, d, z.t⟩) := hf6
        clear hu6 hf6
        go_wp2_with fail
        refine (tChoice_any v' (qs ++ [q]) (ts ++ [tr]) _ _ (by exact own_zero HD6.out.own) (by simp; omega) (by exact HD6.out.nodes)).mono ?_
        rintro e w7 ⟨p, v, rfl, hp, hu7, ht7, ho7, hv7⟩
        go_wp2_with fail
        go_ret2
        exact row_end HR.out (by simp [cLab, Sp.blank]) (by simp [cLab]) (tnOf_choice _ _) HU6.out HF6.out HD6.out hp hu7 ht7 ho7 hv7 rfl

theorem pChoice_all : ∀ k, 1 ≤ k → k ≤ 9 → PChoiceC k
  | 0, h, _ => by omega
  | k + 1, _, h => pChoice_step k (by omega) (fun q => pChoice_all k q (by omega))
end Go.Proofs.YtadmlifmcdnhnaaDoor

set_option linter.unusedSimpArgs false
set_option linter.unusedVariables false
namespace Go.Proofs.YtadmlifmcdnhnaaDoor
open Go.RowKit

/-- A whole pattern, but for its size. -/
def wholeR (s : ByteArray) : Sp.Res (Tr × Sp.At) := match Sp.choice s 9 ⟨0, 0⟩ with
  | .error f => .error f
  | .ok (t, y) => if y.i < s.size then .error (3, y.i) else .ok (t, y)

set_option maxHeartbeats 800000 in
theorem pWhole_any (r : Nat) (s : ByteArray) (w : World) (h : PdAt w r s ⟨0, 0, 0, 0, 0⟩) (hs : s.size ≤ 200) :
    Calls Tryd.prog 15 #[.pointer (some ⟨r, 0, none⟩)] w (PNodeOut r s ⟨0, 0, 0, 0, 0⟩ w (wholeR s)) := by
  have hr := lt_of_heap h
  have hh : Hid (PdAt w r s ⟨0, 0, 0, 0, 0⟩) := h
  clear h
  go_enter Tryd.func15, Tryd.ntmps15
  go_wp2_with fail
  refine (pChoice_all 9 (by omega) (by omega) r s ⟨0, 0, 0, 0, 0⟩ _ (by exact hh.out) hs (by simp) (by simp) (by simp) (by simp)).mono ?_
  rintro e w1 ⟨hu, hq⟩
  have HU1 : Hid (Upd [r] w w1) := hu
  clear hu
  revert hq
  cases hc : Sp.choice s 9 ⟨0, 0⟩ with
  | error p =>
    obtain ⟨e1, a1⟩ := p
    rintro ⟨i', t', rfl, hf⟩
    have HR : Hid (wholeR s = .error (e1, a1)) := by show _ = _; unfold wholeR; rw [hc]
    clear hc
    go_wp2_with fail
    go_ret2
    exact PNodeOut.mk_error _ _ i' t' HR.out HU1.out rfl hf
  | ok p =>
    obtain ⟨t, y⟩ := p
    rintro ⟨p, rfl, hn, hf⟩
    have HC : Hid (Sp.choice s 9 ⟨0, 0⟩ = .ok (t, y)) := hc
    obtain ⟨hy1, hy2, hy3, hy4⟩ := Sp.choice_good s 9 _ _ _ hc (by simp) (by simp) (by simp)
    have HF1 : Hid (PdAt w1 r s ⟨y.i, 0, 0, 0, y.t⟩) := hf
    have HN1 : Hid (NodesAt w1 (fun k => w.heap.size ≤ k) [p] [t]) := hn
    obtain ⟨c0, c1, c2, c3, c4, c5, fz⟩ := HF1.out.facts
    clear hf hn hc
    unfold ptr
    by_cases hlt : y.i < s.size
    · have HR : Hid (wholeR s = .error (3, y.i)) := by show _ = _; unfold wholeR; rw [HC.out]; simp [hlt]
      go_wp2_with fail
      refine (pAtEnd_no r s ⟨y.i, 0, 0, 0, y.t⟩ _ (by exact HF1.out) hlt).mono ?_
      rintro e w2 ⟨rfl, n2, rfl⟩
      go_wp2_with fail
      refine (pRefuse_any r s ⟨y.i, 0, 0, 0, y.t⟩ _ _ _ (by exact HF1.out)).mono ?_
      rintro e w3 ⟨rfl, hu3, hf3⟩
      go_wp2_with fail
      go_ret2
      exact PNodeOut.mk_error _ _ y.i y.t HR.out ((HU1.out.trans (drewN_upd _ _ _)).trans hu3) rfl hf3
    · have HE : Hid (y.i = s.size) := by show _ = _; omega
      have HR : Hid (wholeR s = .ok (t, y)) := by show _ = _; unfold wholeR; rw [HC.out]; simp [hlt]
      go_wp2_with fail
      refine (pAtEnd_yes r s ⟨y.i, 0, 0, 0, y.t⟩ _ (by exact HF1.out) HE.out).mono ?_
      rintro e w2 ⟨rfl, n2, rfl⟩
      go_wp2_with fail
      go_ret2
      exact PNodeOut.mk_ok _ _ p HR.out (HU1.out.trans (drewN_upd _ _ _)) rfl (NodesAt.same _ _ HN1.out (fun _ _ _ => rfl)) (HF1.out.drewN n2)

/-- What reading a pattern leaves. -/
def PReadOut (w : World) (res : Sp.Res (Tr × Int)) (k : Ending) (w' : World) : Prop :=
  Upd [] w w' ∧ match res with
  | .ok (t, n) => ∃ p, k = .returned (.tuple #[ptr p, .int .i64 n, .agg #[.int .i64 0, .int .i64 0]]) ∧ NodesAt w' (fun k => w.heap.size ≤ k) [p] [t]
  | .error (e, a) => k = .returned (.tuple #[.pointer none, .int .i64 0, .agg #[.int .i64 e, .int .i64 a]])
theorem PReadOut.mk_ok {w w' : World} {res : Sp.Res (Tr × Int)} {k : Ending} (t : Tr) (n : Int) (p : Nat) (h : res = .ok (t, n)) (u : Upd [] w w') (hk : k = .returned (.tuple #[ptr p, .int .i64 n, .agg #[.int .i64 0, .int .i64 0]])) (hn : NodesAt w' (fun k => w.heap.size ≤ k) [p] [t]) : PReadOut w res k w' := by
  subst h; exact ⟨u, p, hk, hn⟩
theorem PReadOut.mk_error {w w' : World} {res : Sp.Res (Tr × Int)} {k : Ending} (e a : Int) (h : res = .error (e, a)) (u : Upd [] w w') (hk : k = .returned (.tuple #[.pointer none, .int .i64 0, .agg #[.int .i64 e, .int .i64 a]])) : PReadOut w res k w' := by
  subst h; exact ⟨u, hk⟩
theorem PdAt.new {w : World} {s : ByteArray} {x : RS} {c : Array Value} {p : Nat} (hc : c = pdCells s x) (hp : p = w.heap.size) : PdAt (w.alloc (.cells c 56)) p s x := by
  subst hp hc; show (w.heap.push _)[w.heap.size]? = _; simp
theorem pread_long {s : ByteArray} (h : 200 < s.size) : Sp.read s = .error (2, 0) := by unfold Sp.read; rw [if_pos h]
theorem pread_err {s : ByteArray} {f : Sp.Fault} (h : ¬ 200 < s.size) (hw : wholeR s = .error f) : Sp.read s = .error f := by
  unfold Sp.read; rw [if_neg h]; unfold wholeR at hw
  cases hc : Sp.choice s 9 ⟨0, 0⟩ with
  | error g => rw [hc] at hw; simp only at hw ⊢; cases hw; rfl
  | ok p =>
    obtain ⟨t, y⟩ := p
    rw [hc] at hw; simp only at hw ⊢
    split at hw
    · rename_i q; rw [if_pos q]; cases hw; rfl
    · cases hw
theorem pread_ok {s : ByteArray} {t : Tr} {y : Sp.At} (h : ¬ 200 < s.size) (hw : wholeR s = .ok (t, y)) : Sp.read s = if Sp.size t > 60 then .error (7, 0) else .ok (t, y.t) := by
  unfold Sp.read; rw [if_neg h]; unfold wholeR at hw
  cases hc : Sp.choice s 9 ⟨0, 0⟩ with
  | error g => rw [hc] at hw; cases hw
  | ok p =>
    obtain ⟨t', y'⟩ := p
    rw [hc] at hw; simp only at hw ⊢
    split at hw
    · cases hw
    · rename_i q; cases hw; rw [if_neg q]

theorem pread_fin {w w1 w2 : World} {res : Sp.Res (Tr × Int)} {k : Ending} {t : Tr} {n : Int} {p : Nat} (h : res = .ok (t, n)) (hk : k = .returned (.tuple #[ptr p, .int .i64 n, .agg #[.int .i64 0, .int .i64 0]])) (hu : Upd [] w w1) (hn : NodesAt w1 (fun k => w.heap.size + 2 ≤ k) [p] [t]) (hu2 : Upd [w.heap.size] w1 w2) : PReadOut w res k w2 :=
  PReadOut.mk_ok _ _ p h (hu.hide hu2 (Nat.le_refl _)) hk (NodesAt.mono _ _ (hn.upd hu2 (fun k hk => by simp at hk; omega)) (fun k hk _ => by omega))

set_option maxHeartbeats 800000 in
theorem pRead_any (s : ByteArray) (w : World) :
    Calls Tryd.prog 10 #[.string s] w (PReadOut w (Sp.read s)) := by
  by_cases hl : 200 < s.size
  · have HR : Hid (Sp.read s = .error (2, 0)) := pread_long hl
    have hl' : (200 : Int) < s.size := by omega
    go_enter Tryd.func10, Tryd.ntmps10
    go_wp2_with fail
    refine bodyPost_ret (v := .tuple #[.pointer none, .int .i64 0, .agg #[.int .i64 2, .int .i64 0]]) (by simp [results, Tryd.results10, go_sem]) rfl ?_
    exact PReadOut.mk_error _ _ HR.out (by (repeat (first | exact Upd.refl _ _ | refine Upd.drewN ?_ | refine Upd.drew ?_ | refine Upd.setCell ?_ (by simp) _ | refine Upd.alloc ?_ _))) rfl
  · have hs : s.size ≤ 200 := by omega
    have hl' : ¬ (200 : Int) < s.size := by omega
    have HNL : Hid (¬ 200 < s.size) := hl
    have hh : Hid (PdAt ((w.alloc (.cells #[.int .i64 0, .int .i64 0] 36)).alloc (.cells (pdCells s ⟨0, 0, 0, 0, 0⟩) 56)) (w.heap.size + 1) s ⟨0, 0, 0, 0, 0⟩) := PdAt.new rfl (by simp)
    go_enter Tryd.func10, Tryd.ntmps10
    go_wp2_with fail
    refine (pWhole_any (w.heap.size + 1) s _ (by exact hh.out) hs).mono ?_
    rintro e w1 ⟨hu, hq⟩
    have HU1 : Hid (Upd [] w w1) := (((Upd.refl [] w).alloc _).alloc _).hide hu (by simp)
    have hsz1 : w.heap.size + 2 ≤ w1.heap.size := by have := hu.size; simp at this; omega
    have hb : w1.heap[w.heap.size]? = some (.cells #[.int .i64 0, .int .i64 0] 36 (0, 0)) := by
      rw [hu.block w.heap.size (by simp; omega) (by simp), Below.heap_alloc _ _ _ (by simp)]
      show (w.heap.push _)[w.heap.size]? = _; simp
    have b0 : w1.cell? ⟨w.heap.size, 0, none⟩ = some (.int .i64 0) := by simp [World.cell?, hb]
    have b1 : w1.cell? ⟨w.heap.size, 1, none⟩ = some (.int .i64 0) := by simp [World.cell?, hb]
    have bz : ∀ o, w1.frozen? ⟨w.heap.size, o, none⟩ = false := by intro o; simp [World.frozen?, hb]
    clear hu hb
    revert hq
    cases hw : wholeR s with
    | error p =>
      obtain ⟨e1, a1⟩ := p
      rintro ⟨i', t', rfl, hf⟩
      have HR : Hid (Sp.read s = .error (e1, a1)) := pread_err HNL.out hw
      obtain ⟨c0, c1, c2, c3, c4, c5, fz⟩ := PdAt.facts hf
      have c4' : w1.cell? ⟨w.heap.size + 1, 4, none⟩ = some (.int .i64 e1) := c4
      have c5' : w1.cell? ⟨w.heap.size + 1, 5, none⟩ = some (.int .i64 a1) := c5
      clear hw c4 c5 hf
      go_wp2_with fail
      go_region
      go_wp2_with fail
      refine bodyPost_ret (v := .tuple #[.pointer none, .int .i64 0, .agg #[.int .i64 e1, .int .i64 a1]]) (by simp [results, Tryd.results10, go_sem, b0, b1, bz]) rfl ?_
      exact PReadOut.mk_error _ _ HR.out (HU1.out.hide (q := w.heap.size) (by (repeat (first | exact Upd.refl _ _ | refine Upd.drewN ?_ | refine Upd.drew ?_ | refine Upd.setCell ?_ (by simp) _ | refine Upd.alloc ?_ _))) (Nat.le_refl _)) rfl
    | ok p =>
      obtain ⟨t, y⟩ := p
      rintro ⟨p, rfl, hn, hf⟩
      have HN1 : Hid (NodesAt w1 (fun k => w.heap.size + 2 ≤ k) [p] [t]) := NodesAt.mono _ _ hn (fun k hk _ => by have hk' : ((w.alloc _).alloc _).heap.size ≤ k := hk; simp at hk'; omega)
      have HR : Hid (Sp.read s = if Sp.size t > 60 then .error (7, 0) else .ok (t, y.t)) := pread_ok HNL.out hw
      have hz := nodePsz HN1.out
      obtain ⟨c0, c1, c2, c3, c4, c5, fz⟩ := PdAt.facts hf
      have c3' : w1.cell? ⟨w.heap.size + 1, 3, none⟩ = some (.int .i64 y.t) := c3
      clear hw hn c3 hf
      unfold ptr
      by_cases h60 : 60 < psz t
      · have HR' : Hid (Sp.read s = .error (7, 0)) := by show _ = _; rw [HR.out, if_pos (by unfold psz at h60; omega)]
        go_wp2_with fail
        refine bodyPost_ret (v := .tuple #[.pointer none, .int .i64 0, .agg #[.int .i64 7, .int .i64 0]]) (by simp [results, Tryd.results10, go_sem, b0, b1, bz]) rfl ?_
        exact PReadOut.mk_error _ _ HR'.out (HU1.out.hide (q := w.heap.size) (by (repeat (first | exact Upd.refl _ _ | refine Upd.drewN ?_ | refine Upd.drew ?_ | refine Upd.setCell ?_ (by simp) _ | refine Upd.alloc ?_ _))) (Nat.le_refl _)) rfl
      · have HR' : Hid (Sp.read s = .ok (t, y.t)) := by show _ = _; rw [HR.out, if_neg (by unfold psz at h60; omega)]
        go_wp2_with fail
        go_region
        go_wp2_with fail
        refine bodyPost_ret (v := .tuple #[.pointer (some ⟨p, 0, none⟩), .int .i64 y.t, .agg #[.int .i64 0, .int .i64 0]]) (by simp [results, Tryd.results10, go_sem, b0, b1, bz]) rfl ?_
        refine pread_fin HR'.out rfl HU1.out HN1.out ?_
        (repeat (first | exact Upd.refl _ _ | refine Upd.drewN ?_ | refine Upd.drew ?_ | refine Upd.setCell ?_ (by simp) _ | refine Upd.alloc ?_ _))
end Go.Proofs.YtadmlifmcdnhnaaDoor

/- The library's strconv.Itoa (below a hundred) and strings.Builder, by the shelf's contracts, at this program's numbers. -/
namespace Go.Proofs.YtadmlifmcdnhnaaDoor
open Go.RowKit Go.Shelf Go.Lib

def lays171_ren : Go.Shelf.Ren := ⟨fun | 171 => 59 | 243 => 68 | 246 => 80 | 283 => 89 | 284 => 90 | 285 => 91 | 286 => 92 | 129 => 95 | 317 => 94 | 318 => 96 | 319 => 97 | 320 => 98 | 337 => 100 | 338 => 101 | n => n, fun | 3 => 3 | 9 => 9 | 2 => 2 | 4 => 4 | 171 => 129 | 0 => 0 | 53 => 61 | 37 => 67 | 5 => 5 | 173 => 132 | 212 => 136 | 51 => 137 | 20 => 20 | 213 => 138 | 46 => 97 | 232 => 142 | 233 => 143 | n => n, fun | 17 => 1 | 18 => 2 | 19 => 3 | n => n⟩
theorem lays171 : Go.Proofs.Lays.n171 Tryd.prog lays171_ren := {
  mixed := by kernel_rfl
  f129 := Tryd.func95.trans (congrArg some (by kernel_rfl))
  f171 := Tryd.func59.trans (congrArg some (by kernel_rfl))
  f243 := Tryd.func68.trans (congrArg some (by kernel_rfl))
  f246 := Tryd.func80.trans (congrArg some (by kernel_rfl))
  f283 := Tryd.func89.trans (congrArg some (by kernel_rfl))
  f284 := Tryd.func90.trans (congrArg some (by kernel_rfl))
  f285 := Tryd.func91.trans (congrArg some (by kernel_rfl))
  f286 := Tryd.func92.trans (congrArg some (by kernel_rfl))
  f317 := Tryd.func94.trans (congrArg some (by kernel_rfl))
  f318 := Tryd.func96.trans (congrArg some (by kernel_rfl))
  f319 := Tryd.func97.trans (congrArg some (by kernel_rfl))
  f320 := Tryd.func98.trans (congrArg some (by kernel_rfl))
  f337 := Tryd.func100.trans (congrArg some (by kernel_rfl))
  f338 := Tryd.func101.trans (congrArg some (by kernel_rfl))
  t0 := Tryd.underlying0
  a0 := Tryd.isAgg0
  z0 := Tryd.sizeOf0
  v0 := Tryd.zeroValue0
  t2 := Tryd.underlying2
  a2 := Tryd.isAgg2
  z2 := Tryd.sizeOf2
  v2 := Tryd.zeroValue2
  t3 := Tryd.underlying3
  a3 := Tryd.isAgg3
  z3 := Tryd.sizeOf3
  v3 := Tryd.zeroValue3
  t4 := Tryd.underlying4
  a4 := Tryd.isAgg4
  z4 := Tryd.sizeOf4
  v4 := Tryd.zeroValue4
  t5 := Tryd.underlying5
  a5 := Tryd.isAgg5
  z5 := Tryd.sizeOf5
  v5 := Tryd.zeroValue5
  t9 := Tryd.underlying9
  a9 := Tryd.isAgg9
  z9 := Tryd.sizeOf9
  v9 := Tryd.zeroValue9
  t20 := Tryd.underlying20
  a20 := Tryd.isAgg20
  z20 := Tryd.sizeOf20
  v20 := Tryd.zeroValue20
  t37 := Tryd.underlying67
  a37 := Tryd.isAgg67
  z37 := Tryd.sizeOf67
  v37 := Tryd.zeroValue67
  t46 := Tryd.underlying97
  a46 := Tryd.isAgg97
  z46 := Tryd.sizeOf97
  v46 := Tryd.zeroValue97
  t51 := Tryd.underlying137
  a51 := Tryd.isAgg137
  z51 := Tryd.sizeOf137
  v51 := Tryd.zeroValue137
  t53 := Tryd.underlying61
  a53 := Tryd.isAgg61
  z53 := Tryd.sizeOf61
  v53 := Tryd.zeroValue61
  t171 := Tryd.underlying129
  a171 := Tryd.isAgg129
  z171 := Tryd.sizeOf129
  v171 := Tryd.zeroValue129
  t173 := Tryd.underlying132
  a173 := Tryd.isAgg132
  z173 := Tryd.sizeOf132
  v173 := Tryd.zeroValue132
  t212 := Tryd.underlying136
  a212 := Tryd.isAgg136
  z212 := Tryd.sizeOf136
  v212 := Tryd.zeroValue136
  t213 := Tryd.underlying138
  a213 := Tryd.isAgg138
  z213 := Tryd.sizeOf138
  t232 := Tryd.underlying142
  a232 := Tryd.isAgg142
  z232 := Tryd.sizeOf142
  v232 := Tryd.zeroValue142
  t233 := Tryd.underlying143
  a233 := Tryd.isAgg143
  z233 := Tryd.sizeOf143
  v233 := Tryd.zeroValue143
  g17 := by kernel_rfl
  g18 := by kernel_rfl
  g19 := by kernel_rfl }
def lays169_ren : Go.Shelf.Ren := ⟨fun | 169 => 17 | n => n, fun | 70 => 66 | 9 => 9 | 0 => 0 | 72 => 69 | 37 => 67 | 127 => 90 | 3 => 3 | 5 => 5 | n => n, fun | n => n⟩
theorem lays169 : Go.Proofs.Lays.n169 Tryd.prog lays169_ren := {
  mixed := by kernel_rfl
  f169 := Tryd.func17.trans (congrArg some (by kernel_rfl))
  t0 := Tryd.underlying0
  a0 := Tryd.isAgg0
  z0 := Tryd.sizeOf0
  v0 := Tryd.zeroValue0
  t3 := Tryd.underlying3
  a3 := Tryd.isAgg3
  z3 := Tryd.sizeOf3
  v3 := Tryd.zeroValue3
  t9 := Tryd.underlying9
  a9 := Tryd.isAgg9
  z9 := Tryd.sizeOf9
  v9 := Tryd.zeroValue9
  t37 := Tryd.underlying67
  a37 := Tryd.isAgg67
  z37 := Tryd.sizeOf67
  v37 := Tryd.zeroValue67
  t70 := Tryd.underlying66
  a70 := Tryd.isAgg66
  z70 := Tryd.sizeOf66
  v70 := Tryd.zeroValue66
  t72 := Tryd.underlying69
  a72 := Tryd.isAgg69
  z72 := Tryd.sizeOf69
  v72 := Tryd.zeroValue69
  t127 := Tryd.underlying90
  a127 := Tryd.isAgg90
  z127 := Tryd.sizeOf90
  v127 := Tryd.zeroValue90 }
def renB : Go.Shelf.Ren := ⟨fun | 166 => 41 | 167 => 29 | 240 => 43 | 276 => 58 | n => n, fun | 0 => 0 | 3 => 3 | 4 => 4 | 5 => 5 | 9 => 9 | 20 => 20 | 37 => 67 | 70 => 66 | 72 => 69 | 75 => 86 | 80 => 71 | 164 => 107 | n => n, fun | n => n⟩
theorem lays167 : Go.Proofs.Lays.n167 Tryd.prog renB := {
  mixed := by kernel_rfl
  f167 := Tryd.func29.trans (congrArg some (by kernel_rfl))
  f240 := Tryd.func43.trans (congrArg some (by kernel_rfl))
  f276 := Tryd.func58.trans (congrArg some (by kernel_rfl))
  t0 := Tryd.underlying0
  a0 := Tryd.isAgg0
  z0 := Tryd.sizeOf0
  v0 := Tryd.zeroValue0
  t4 := Tryd.underlying4
  a4 := Tryd.isAgg4
  z4 := Tryd.sizeOf4
  v4 := Tryd.zeroValue4
  t5 := Tryd.underlying5
  a5 := Tryd.isAgg5
  z5 := Tryd.sizeOf5
  v5 := Tryd.zeroValue5
  t9 := Tryd.underlying9
  a9 := Tryd.isAgg9
  z9 := Tryd.sizeOf9
  v9 := Tryd.zeroValue9
  t20 := Tryd.underlying20
  a20 := Tryd.isAgg20
  z20 := Tryd.sizeOf20
  v20 := Tryd.zeroValue20
  t37 := Tryd.underlying67
  a37 := Tryd.isAgg67
  z37 := Tryd.sizeOf67
  v37 := Tryd.zeroValue67
  t70 := Tryd.underlying66
  a70 := Tryd.isAgg66
  z70 := Tryd.sizeOf66
  v70 := Tryd.zeroValue66
  t72 := Tryd.underlying69
  a72 := Tryd.isAgg69
  z72 := Tryd.sizeOf69
  v72 := Tryd.zeroValue69
  t75 := Tryd.underlying86
  a75 := Tryd.isAgg86
  z75 := Tryd.sizeOf86
  v75 := Tryd.zeroValue86
  t164 := Tryd.underlying107
  a164 := Tryd.isAgg107
  z164 := Tryd.sizeOf107
  v164 := Tryd.zeroValue107 }
theorem lays166 : Go.Proofs.Lays.n166 Tryd.prog renB := {
  mixed := by kernel_rfl
  f166 := Tryd.func41.trans (congrArg some (by kernel_rfl))
  f240 := Tryd.func43.trans (congrArg some (by kernel_rfl))
  f276 := Tryd.func58.trans (congrArg some (by kernel_rfl))
  t0 := Tryd.underlying0
  a0 := Tryd.isAgg0
  z0 := Tryd.sizeOf0
  v0 := Tryd.zeroValue0
  t3 := Tryd.underlying3
  a3 := Tryd.isAgg3
  z3 := Tryd.sizeOf3
  v3 := Tryd.zeroValue3
  t4 := Tryd.underlying4
  a4 := Tryd.isAgg4
  z4 := Tryd.sizeOf4
  v4 := Tryd.zeroValue4
  t9 := Tryd.underlying9
  a9 := Tryd.isAgg9
  z9 := Tryd.sizeOf9
  v9 := Tryd.zeroValue9
  t20 := Tryd.underlying20
  a20 := Tryd.isAgg20
  z20 := Tryd.sizeOf20
  v20 := Tryd.zeroValue20
  t37 := Tryd.underlying67
  a37 := Tryd.isAgg67
  z37 := Tryd.sizeOf67
  v37 := Tryd.zeroValue67
  t70 := Tryd.underlying66
  a70 := Tryd.isAgg66
  z70 := Tryd.sizeOf66
  v70 := Tryd.zeroValue66
  t72 := Tryd.underlying69
  a72 := Tryd.isAgg69
  z72 := Tryd.sizeOf69
  v72 := Tryd.zeroValue69
  t75 := Tryd.underlying86
  a75 := Tryd.isAgg86
  z75 := Tryd.sizeOf86
  v75 := Tryd.zeroValue86
  t164 := Tryd.underlying107
  a164 := Tryd.isAgg107
  z164 := Tryd.sizeOf107
  v164 := Tryd.zeroValue107 }
theorem extra_renB : Builder.Extra Tryd.prog renB := {
  sizeBuilder := by kernel_rfl
  liesBuilder := by kernel_rfl
  t5 := Tryd.underlying5
  a5 := Tryd.isAgg5
  z5 := Tryd.sizeOf5
  v5 := Tryd.zeroValue5
  infoByte := by kernel_rfl
  cellsByte := by kernel_rfl
  sizeByte := by kernel_rfl
  neB5 := by decide }
theorem extra_lays169_ren : Builder.Extra Tryd.prog lays169_ren := {
  sizeBuilder := by kernel_rfl
  liesBuilder := by kernel_rfl
  t5 := Tryd.underlying5
  a5 := Tryd.isAgg5
  z5 := Tryd.sizeOf5
  v5 := Tryd.zeroValue5
  infoByte := by kernel_rfl
  cellsByte := by kernel_rfl
  sizeByte := by kernel_rfl
  neB5 := by decide }
end Go.Proofs.YtadmlifmcdnhnaaDoor

set_option linter.unusedSimpArgs false
set_option linter.unusedVariables false
namespace Go.Proofs.YtadmlifmcdnhnaaDoor
open Go.RowKit

/-- A builder that holds these bytes; nothing of it lies below it. -/
def BdAt (w : World) (b : Nat) (l : List UInt8) : Prop := Lib.IsBuilder 69 5 b b (Lib.byteCells l) w
theorem BdAt.lt {w : World} {b : Nat} {l : List UInt8} (h : BdAt w b l) : b < w.heap.size := by
  rcases h with h | h <;> obtain ⟨_, v, hb, _⟩ := h <;> exact lt_of_heap hb
/-- What a call leaves that writes. -/
def PrOut (b : Nat) (l new : List UInt8) (w : World) (e : Ending) (w' : World) : Prop := e = .returned (.tuple #[]) ∧ BdAt w' b (l ++ new) ∧ Below b w w'

theorem bytes_snoc (l : List UInt8) (u : UInt8) : Lib.byteCells (l ++ [u]) = Lib.byteCells l ++ [.int .u8 u.toNat] := by simp [Lib.byteCells]
theorem bytes_app (l : List UInt8) (s : ByteArray) : Lib.byteCells (l ++ s.data.toList) = Lib.byteCells l ++ Lib.strCells s := by simp [Lib.byteCells, Lib.strCells]
theorem wb_any (b : Nat) (l : List UInt8) (u : UInt8) (w : World) (h : BdAt w b l) (hl : l.length ≤ 100000000) :
    Calls Tryd.prog 29 #[.pointer (some ⟨b, 0, none⟩), .int .u8 (u.toNat : Nat)] w fun e w' => e = .returned .nilIface ∧ BdAt w' b (l ++ [u]) ∧ Below b w w' :=
  (Any.Builder_WriteByte lays167 extra_renB b b (Lib.byteCells l) (u.toNat : Nat) w h (by simp [Lib.byteCells]; omega) (Nat.le_of_lt h.lt)).mono fun e w' q => ⟨q.1, Or.inr (by rw [bytes_snoc]; exact q.2.1), q.2.2⟩
theorem ws_any (b : Nat) (l : List UInt8) (s : ByteArray) (w : World) (h : BdAt w b l) (hl : l.length ≤ 100000000) (hs : s.size ≤ 100000000) :
    Calls Tryd.prog 41 #[.pointer (some ⟨b, 0, none⟩), .string s] w fun e w' => e = .returned (.tuple #[.int .i64 s.size, .nilIface]) ∧ BdAt w' b (l ++ s.data.toList) ∧ Below b w w' :=
  (Any.Builder_WriteString lays166 extra_renB b b (Lib.byteCells l) s w h (by simp [Lib.byteCells]; omega) (Nat.le_of_lt h.lt)).mono fun e w' q => ⟨q.1, Or.inr (by rw [bytes_app]; exact q.2.1), q.2.2⟩
theorem bstr_any (b : Nat) (l : List UInt8) (w : World) (h : BdAt w b l) :
    Calls Tryd.prog 17 #[.pointer (some ⟨b, 0, none⟩)] w fun e w' => e = .returned (.string (str l)) ∧ Below b w w' :=
  Any.Builder_String_any lays169 extra_lays169_ren b b l w h (Nat.le_of_lt h.lt)
theorem itoa_any (i : Nat) (hi : i < 100) (w : World) :
    Calls Tryd.prog 59 #[.int .i64 i] w fun e w' => e = .returned (.string ⟨(Lib.decDigits i).toArray⟩) ∧ w' = w := Any.strconv_Itoa_small lays171 i hi w
theorem dec_all : ((List.range 100).all fun n => Lib.decDigits n == Sp.digs (n : Int)) = true := by kernel_rfl
theorem dec_is {n : Nat} (h : n < 100) : Lib.decDigits n = Sp.digs (n : Int) := by
  have q := dec_all
  rw [List.all_eq_true] at q
  simpa using q n (List.mem_range.2 h)

set_option maxHeartbeats 400000 in
theorem prByte_n (b : Nat) (l : List UInt8) (sg : Bool) (w : World) (h : BdAt w b l) (hl : l.length ≤ 10000000) :
    Calls Tryd.prog 28 #[.pointer (some ⟨b, 0, none⟩), .int .u8 10, .string (sgL sg)] w (PrOut b l (Sp.shown 10 sg) w) := by
  have hh : Hid (BdAt w b l) := h
  have HR : Hid (Sp.shown 10 sg = [92, 110]) := by show _ = _; unfold Sp.shown; rw [if_pos rfl]
  clear h
  go_enter Tryd.func28, Tryd.ntmps28
  go_wp2_with fail
  refine (ws_any b l _ _ (by exact hh.out) (by omega) (by decide)).mono ?_
  rintro e w1 ⟨rfl, hb1, hu1⟩
  go_wp2_with fail
  go_end0
  exact ⟨rfl, by rw [HR.out]; exact hb1, hu1⟩
set_option maxHeartbeats 400000 in
theorem prByte_t (b : Nat) (l : List UInt8) (sg : Bool) (w : World) (h : BdAt w b l) (hl : l.length ≤ 10000000) :
    Calls Tryd.prog 28 #[.pointer (some ⟨b, 0, none⟩), .int .u8 9, .string (sgL sg)] w (PrOut b l (Sp.shown 9 sg) w) := by
  have hh : Hid (BdAt w b l) := h
  have HR : Hid (Sp.shown 9 sg = [92, 116]) := by show _ = _; unfold Sp.shown; rw [if_neg (by decide), if_pos rfl]
  clear h
  go_enter Tryd.func28, Tryd.ntmps28
  go_wp2_with fail
  refine (ws_any b l _ _ (by exact hh.out) (by omega) (by decide)).mono ?_
  rintro e w1 ⟨rfl, hb1, hu1⟩
  go_wp2_with fail
  go_end0
  exact ⟨rfl, by rw [HR.out]; exact hb1, hu1⟩
def hx16 : ByteArray := ⟨#[48, 49, 50, 51, 52, 53, 54, 55, 56, 57, 97, 98, 99, 100, 101, 102]⟩
theorem hx_is (n : Nat) (h : n < hx16.size) : hx16[n] = Sp.hexB (n : Int) := by
  have h' : n < 16 := h
  rcases (by omega : n = 0 ∨ n = 1 ∨ n = 2 ∨ n = 3 ∨ n = 4 ∨ n = 5 ∨ n = 6 ∨ n = 7 ∨ n = 8 ∨ n = 9 ∨ n = 10 ∨ n = 11 ∨ n = 12 ∨ n = 13 ∨ n = 14 ∨ n = 15) with rfl | rfl | rfl | rfl | rfl | rfl | rfl | rfl | rfl | rfl | rfl | rfl | rfl | rfl | rfl | rfl <;> rfl
theorem hx_at {c : Int} (h0 : 0 ≤ c) (h : c.toNat < hx16.size) : hx16[c.toNat] = Sp.hexB c := by
  rw [hx_is, show ((c.toNat : Nat) : Int) = c by omega]
theorem and_all : ((List.range 256).all fun n => bits BinOp.and IntKind.u8 (n : Int) 15 == (n : Int) % 16) = true := by kernel_rfl
theorem and_15 {c : Int} (h0 : 0 ≤ c) (h1 : c ≤ 255) : bits BinOp.and IntKind.u8 c 15 = c % 16 := by
  obtain ⟨n, rfl⟩ := Int.eq_ofNat_of_zero_le h0
  have h := and_all
  rw [List.all_eq_true] at h
  simpa using h n (List.mem_range.2 (by omega))

set_option maxHeartbeats 400000 in
theorem prByte_x (b : Nat) (l : List UInt8) (sg : Bool) (c : Int) (w : World) (h : BdAt w b l) (hl : l.length ≤ 10000000) (h0 : 0 ≤ c) (h1 : c ≤ 255) (hn : c ≠ 10) (ht : c ≠ 9) (hx : c < 33 ∨ 126 < c) :
    Calls Tryd.prog 28 #[.pointer (some ⟨b, 0, none⟩), .int .u8 c, .string (sgL sg)] w (PrOut b l (Sp.shown c sg) w) := by
  have hh : Hid (BdAt w b l) := h
  have HR : Hid (Sp.shown c sg = [92, 120, Sp.hexB (c / 16), Sp.hexB (c % 16)]) := by show _ = _; unfold Sp.shown; rw [if_neg hn, if_neg ht, if_pos hx]
  have hn' : (c == 10) = false := by simpa using hn
  have ht' : (c == 9) = false := by simpa using ht
  have ha : bits BinOp.and IntKind.u8 c 15 = c % 16 := and_15 h0 h1
  clear h hn ht
  go_enter Tryd.func28, Tryd.ntmps28
  go_wp2_with fail
  all_goals
    refine (ws_any b l _ _ (by exact hh.out) (by omega) (by decide)).mono ?_
    rintro e w1 ⟨rfl, hb1, hu1⟩
    have HB1 : Hid (BdAt w1 b (l ++ [92, 120])) := hb1
    have HU1 : Hid (Below b w w1) := hu1
    clear hb1 hu1
    go_wp2_with fail
    refine (wb_any b (l ++ [92, 120]) _ _ (by exact HB1.out) (by simp; omega)).mono ?_
    rintro e w2 ⟨rfl, hb2, hu2⟩
    have HB2 : Hid (BdAt w2 b (l ++ [92, 120] ++ [Sp.hexB (c / 16)])) := by rw [← hx_at (c := c / 16) (by omega) (show _ < 16 by omega)]; exact hb2
    have HU2 : Hid (Below b w w2) := HU1.out.trans hu2
    clear hb2 hu2
    go_wp2_with fail
    refine (wb_any b (l ++ [92, 120] ++ [Sp.hexB (c / 16)]) _ _ (by exact HB2.out) (by simp; omega)).mono ?_
    rintro e w3 ⟨rfl, hb3, hu3⟩
    have HB3 : Hid (BdAt w3 b (l ++ [92, 120] ++ [Sp.hexB (c / 16)] ++ [Sp.hexB (c % 16)])) := by rw [← hx_at (c := c % 16) (by omega) (show _ < 16 by omega)]; exact hb3
    have HU3 : Hid (Below b w w3) := HU2.out.trans hu3
    clear hb3 hu3
    go_wp2_with fail
    go_end0
    exact ⟨rfl, by rw [HR.out]; simpa using HB3.out, HU3.out⟩

set_option maxHeartbeats 400000 in
theorem prByte_s (b : Nat) (l : List UInt8) (sg : Bool) (c : Int) (w : World) (h : BdAt w b l) (hl : l.length ≤ 10000000) (h0 : 33 ≤ c) (h1 : c ≤ 126) (hs : isSign sg c = true) :
    Calls Tryd.prog 28 #[.pointer (some ⟨b, 0, none⟩), .int .u8 c, .string (sgL sg)] w (PrOut b l (Sp.shown c sg) w) := by
  have hh : Hid (BdAt w b l) := h
  have HR : Hid (Sp.shown c sg = [92, Sp.u8 c]) := by show _ = _; unfold Sp.shown; rw [if_neg (by omega), if_neg (by omega), if_neg (by omega), if_pos (show (if sg = true then Sp.listSign c else Sp.sign c) = true from hs)]
  have hix : 0 ≤ ixOf sg c := by have := ix_is (l := sg) (c := c) (by omega) (by omega); rw [hs] at this; simp at this; omega
  have HC : Hid (((Sp.u8 c).toNat : Int) = c) := by show ((UInt8.ofNat c.toNat).toNat : Int) = c; rw [UInt8.toNat_ofNat']; omega
  clear h hs
  obtain ⟨g, HG⟩ : ∃ g, Hid (g = sgL sg) := ⟨sgL sg, (rfl : sgL sg = sgL sg)⟩
  rw [← HG.out]
  go_enter Tryd.func28, Tryd.ntmps28
  go_wp2_with (go_at_call 42; rw [HG.out]; refine (ix_any sg _ _).mono ?_; rintro e w0 ⟨rfl, n0, rfl⟩)
  refine (wb_any b l 92 _ (by exact hh.out) (by omega)).mono ?_
  rintro e w1 ⟨rfl, hb1, hu1⟩
  have HB1 : Hid (BdAt w1 b (l ++ [92])) := hb1
  have HU1 : Hid (Below b w w1) := ⟨hu1.os, hu1.tape, hu1.output, hu1.size, hu1.block⟩
  clear hb1 hu1
  go_wp2_with fail
  rw [show (Value.int .u8 c) = .int .u8 ((Sp.u8 c).toNat : Int) from int_eq HC.out.symm]
  refine (wb_any b (l ++ [92]) (Sp.u8 c) _ (by exact HB1.out) (by simp; omega)).mono ?_
  rintro e w2 ⟨rfl, hb2, hu2⟩
  go_wp2_with fail
  go_end0
  exact ⟨rfl, by rw [HR.out]; simpa using hb2, HU1.out.trans hu2⟩

set_option maxHeartbeats 400000 in
theorem prByte_b (b : Nat) (l : List UInt8) (sg : Bool) (c : Int) (w : World) (h : BdAt w b l) (hl : l.length ≤ 10000000) (h0 : 33 ≤ c) (h1 : c ≤ 126) (hs : isSign sg c = false) :
    Calls Tryd.prog 28 #[.pointer (some ⟨b, 0, none⟩), .int .u8 c, .string (sgL sg)] w (PrOut b l (Sp.shown c sg) w) := by
  have hh : Hid (BdAt w b l) := h
  have HR : Hid (Sp.shown c sg = [Sp.u8 c]) := by show _ = _; unfold Sp.shown; rw [if_neg (by omega), if_neg (by omega), if_neg (by omega), if_neg (by show ¬ isSign sg c = true; rw [hs]; simp)]
  have hix : ¬ 0 ≤ ixOf sg c := by have := ix_is (l := sg) (c := c) (by omega) (by omega); rw [hs] at this; simp at this; omega
  have HC : Hid (((Sp.u8 c).toNat : Int) = c) := by show ((UInt8.ofNat c.toNat).toNat : Int) = c; rw [UInt8.toNat_ofNat']; omega
  clear h hs
  obtain ⟨g, HG⟩ : ∃ g, Hid (g = sgL sg) := ⟨sgL sg, (rfl : sgL sg = sgL sg)⟩
  rw [← HG.out]
  go_enter Tryd.func28, Tryd.ntmps28
  go_wp2_with (go_at_call 42; rw [HG.out]; refine (ix_any sg _ _).mono ?_; rintro e w0 ⟨rfl, n0, rfl⟩)
  rw [show (Value.int .u8 c) = .int .u8 ((Sp.u8 c).toNat : Int) from int_eq HC.out.symm]
  refine (wb_any b l (Sp.u8 c) _ (by exact hh.out) (by omega)).mono ?_
  rintro e w2 ⟨rfl, hb2, hu2⟩
  have HU1 : Hid (Below b w w2) := ⟨hu2.os, hu2.tape, hu2.output, hu2.size, hu2.block⟩
  go_wp2_with fail
  go_end0
  exact ⟨rfl, by rw [HR.out]; exact hb2, HU1.out⟩

theorem prByte_any (b : Nat) (l : List UInt8) (sg : Bool) (c : Int) (w : World) (h : BdAt w b l) (hl : l.length ≤ 10000000) (h0 : 0 ≤ c) (h1 : c ≤ 255) :
    Calls Tryd.prog 28 #[.pointer (some ⟨b, 0, none⟩), .int .u8 c, .string (sgL sg)] w (PrOut b l (Sp.shown c sg) w) := by
  by_cases hn : c = 10
  · subst hn; exact prByte_n b l sg w h hl
  by_cases ht : c = 9
  · subst ht; exact prByte_t b l sg w h hl
  by_cases hx : c < 33 ∨ 126 < c
  · exact prByte_x b l sg c w h hl h0 h1 hn ht hx
  cases hs : isSign sg c with
  | true => exact prByte_s b l sg c w h hl (by omega) (by omega) hs
  | false => exact prByte_b b l sg c w h hl (by omega) (by omega) hs
end Go.Proofs.YtadmlifmcdnhnaaDoor
