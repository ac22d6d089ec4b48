import Derived.Test.YtadmlifmcdnhnaaDoorH09
import Derived.Laws.BytesArg
set_option linter.unusedSimpArgs false
set_option linter.unusedVariables false
namespace Go.Proofs.YtadmlifmcdnhnaaDoor
open Go.RowKit
namespace Sp

theorem digits_le {s : ByteArray} {i : Nat} (h : digitAt s i = true) : 0 ≤ (digits s i).1 := by
  simp [digitAt] at h
  unfold digits; split
  · rename_i q; have := q.2; simp [digitAt] at this; simp; omega
  · simp; omega
theorem number_bd {m : Int} {s : ByteArray} {i j : Nat} {v : Int} (h : number m s i = .ok (v, j)) : 0 ≤ v ∧ v ≤ 20 := by
  unfold number at h; split at h
  · rename_i hd
    split at h
    · cases h
    · rename_i q
      have e : digits s i = (v, j) := by simpa using h
      have := digits_le hd; rw [e] at this q; simp at q this; omega
  · cases h
theorem bounds_bd {s : ByteArray} {i j : Nat} {m n : Int} (h : bounds s i = .ok (m, n, j)) : -1 ≤ m ∧ m ≤ 20 ∧ -1 ≤ n ∧ n ≤ 20 := by
  unfold bounds at h
  cases h1 : number 0 s i with
  | error f => simp [h1] at h
  | ok v =>
    obtain ⟨m', j'⟩ := v
    have g := number_bd h1
    simp only [h1] at h
    split at h
    · split at h
      · cases h2 : number m' s (j' + 1) with
        | error f => simp [h2] at h
        | ok v =>
          obtain ⟨n', k'⟩ := v
          have g' := number_bd h2
          simp only [h2] at h
          cases h3 : need 125 s k' with
          | error f => simp [h3] at h
          | ok l => simp [h3] at h; omega
      · cases h3 : need 125 s (j' + 1) with
        | error f => simp [h3] at h
        | ok l => simp [h3] at h; omega
    · cases h3 : need 125 s j' with
      | error f => simp [h3] at h
      | ok l => simp [h3] at h; omega
theorem count_bd {s : ByteArray} {i j : Nat} {m n : Int} (h : count s i = .ok (m, n, j)) : -1 ≤ m ∧ m ≤ 20 ∧ -1 ≤ n ∧ n ≤ 20 := by
  unfold count at h
  by_cases c1 : isAt s i 42 = true
  · rw [if_pos c1] at h; cases h; omega
  rw [if_neg c1] at h
  by_cases c2 : isAt s i 43 = true
  · rw [if_pos c2] at h; cases h; omega
  rw [if_neg c2] at h
  by_cases c3 : isAt s i 63 = true
  · rw [if_pos c3] at h; cases h; omega
  rw [if_neg c3] at h
  by_cases c4 : isAt s i 123 = true
  · rw [if_pos c4] at h; exact bounds_bd h
  rw [if_neg c4] at h; cases h; omega

theorem Few_cons (t : Tr) (r : List Tr) : Few (t :: r) = (t.kids.length ≤ 1000 ∧ Few t.kids ∧ Few r) := by obtain ⟨a, ks⟩ := t; rw [Few]
theorem Few_nil : Few [] := by unfold Few; trivial
theorem Few_append : ∀ (l : List Tr) (m : List Tr), Few l → Few m → Few (l ++ m)
  | [], _, _, h => h
  | t :: r, m, h, k => by
    rw [Few_cons] at h
    show Few (t :: (r ++ m))
    rw [Few_cons]; exact ⟨h.1, h.2.1, Few_append r m h.2.2 k⟩

/-- What is read is well made. -/
def Made (l : List Tr) : Prop := TrsOK l ∧ Few l
theorem Made.nil : Made [] := ⟨TrsOK_nil, Few_nil⟩
theorem Made.append {l m : List Tr} (h : Made l) (k : Made m) : Made (l ++ m) := ⟨TrsOK_append l m h.1 k.1, Few_append l m h.2 k.2⟩
theorem Made.one {a : Lab} {ks : List Tr} (ha : LabOK a) (hk : Made ks) (hl : ks.length ≤ 1000) : Made [⟨a, ks⟩] := by
  refine ⟨?_, ?_⟩
  · rw [TrsOK]; exact ⟨ha, hk.1, TrsOK_nil⟩
  · rw [Few]; exact ⟨hl, hk.2, Few_nil⟩
theorem Made.lab {t : Tr} (h : Made [t]) : LabOK t.lab ∧ Made t.kids ∧ t.kids.length ≤ 1000 := by
  obtain ⟨h1, h2⟩ := h
  rw [TrsOK_cons] at h1; rw [Few_cons] at h2
  exact ⟨h1.1, ⟨h1.2.1, h2.2.1⟩, h2.1⟩

def Makes (s : ByteArray) (f : At → Res (Tr × At)) : Prop := ∀ x t y, f x = .ok (t, y) → x.i ≤ s.size → 0 ≤ x.t → x.t ≤ 9 → Made [t]

theorem list_makes {s : ByteArray} {i j : Nat} {t : Tr} (h : list s i = .ok (t, j)) : Made [t] := by
  unfold list at h
  simp only [] at h
  cases h1 : items s (s.size + 1) (fun _ => false) (if isAt s i 94 = true then i + 1 else i) with
  | error f => simp [h1] at h
  | ok v =>
    obtain ⟨set, k⟩ := v
    simp only [h1] at h
    cases h
    exact Made.one ⟨by simp, by simp [blank], by simp [blank], by simp [blank], by simp [blank], by simp⟩ Made.nil (by simp)

theorem atom_makes {s : ByteArray} {d : Nat} {sub : At → Res (Tr × At)} (hg : Good s sub) (hs : Makes s sub) {x : At} {t : Tr} {y : At} (h : atom sub s d x = .ok (t, y)) (h0 : 0 ≤ x.t) (h9 : x.t ≤ 9) : Made [t] := by
  unfold atom at h
  by_cases c1 : isAt s x.i 40 = true
  · rw [if_pos c1] at h
    unfold group at h
    cases hh : head s d x with
    | error f => rw [hh] at h; cases h
    | ok v =>
      obtain ⟨k, z⟩ := v
      rw [hh] at h
      have a := head_ok hh (isAt_lt c1) h0 h9
      cases hb : sub z with
      | error f => simp [hb] at h
      | ok v =>
        obtain ⟨t', u⟩ := v
        have b := hs z t' u hb a.2.1 a.2.2.1 a.2.2.2
        cases hn : need 41 s u.i with
        | error f => simp [hb, hn] at h
        | ok j =>
          simp [hb, hn] at h; obtain ⟨rfl, rfl⟩ := h
          exact Made.one ⟨by simp, by simp [blank], by simp [blank], by simp [blank], by simp [blank], by simp⟩ b (by simp)
  rw [if_neg c1] at h
  by_cases c2 : isAt s x.i 91 = true
  · rw [if_pos c2] at h
    cases h1 : list s (x.i + 1) with
    | error f => simp [h1] at h
    | ok v => obtain ⟨t', j⟩ := v; simp [h1] at h; obtain ⟨rfl, rfl⟩ := h; exact list_makes h1
  rw [if_neg c2] at h
  by_cases c3 : isAt s x.i 46 = true
  · rw [if_pos c3] at h; cases h
    exact Made.one ⟨by simp, by simp [blank], by simp [blank], by simp [blank], by simp [blank], by simp⟩ Made.nil (by simp)
  rw [if_neg c3] at h
  cases h1 : byteBut false s x.i with
  | error f => simp [h1] at h
  | ok v =>
    obtain ⟨b, j⟩ := v
    simp [h1] at h; obtain ⟨rfl, rfl⟩ := h
    have := byteBut_ok h1
    exact Made.one ⟨by simp, by simp [blank], by simp [blank], by simp [blank], by simp [blank], fun _ => ⟨by simp; omega, fun c _ => rfl⟩⟩ Made.nil (by simp)

theorem part_makes {s : ByteArray} {d : Nat} {sub : At → Res (Tr × At)} (hg : Good s sub) (hs : Makes s sub) {x : At} {t : Tr} {y : At} (h : part sub s d x = .ok (t, y)) (h0 : 0 ≤ x.t) (h9 : x.t ≤ 9) : Made [t] := by
  unfold part at h
  cases h1 : atom sub s d x with
  | error f => simp [h1] at h
  | ok v =>
    obtain ⟨t', z⟩ := v
    have g := (atom_makes hg hs h1 h0 h9).lab
    cases h2 : count s z.i with
    | error f => simp [h1, h2] at h
    | ok v =>
      obtain ⟨m, n, j⟩ := v
      simp [h1, h2] at h; obtain ⟨rfl, rfl⟩ := h
      have c := count_bd h2
      exact Made.one ⟨g.1.kind, c.1, c.2.1, c.2.2.1, c.2.2.2, g.1.byte⟩ g.2.1 g.2.2
theorem parts_makes {s : ByteArray} {d : Nat} {sub : At → Res (Tr × At)} (hg : Good s sub) (hs : Makes s sub) : ∀ {n : Nat} {l : List Tr} {x : At} {l' : List Tr} {y : At}, parts sub s d n l x = .ok (l', y) → x.i ≤ s.size → 0 ≤ x.t → x.t ≤ 9 → Made l → l.length ≤ x.i → Made l' ∧ l'.length ≤ y.i
  | 0, _, _, _, _, h, _, _, _, _, _ => by cases h
  | n + 1, l, x, l', y, h, hi, h0, h9, hl, hn => by
    unfold parts at h
    split at h
    · cases h; exact ⟨hl, hn⟩
    · cases h1 : part sub s d x with
      | error f => simp [h1] at h
      | ok v =>
        obtain ⟨t', z⟩ := v
        have g := part_good hg h1 h0 h9
        simp only [h1] at h
        exact parts_makes hg hs h g.2.1 g.2.2.1 g.2.2.2 (hl.append (part_makes hg hs h1 h0 h9)) (by simp; omega)
theorem row_makes {s : ByteArray} {d : Nat} {sub : At → Res (Tr × At)} (hz : s.size ≤ 200) (hg : Good s sub) (hs : Makes s sub) : Makes s (row sub s d) := by
  intro x t y h hi h0 h9
  unfold row at h
  cases h1 : parts sub s d (s.size + 1) [] x with
  | error f => simp [h1] at h
  | ok v =>
    obtain ⟨l, z⟩ := v
    simp [h1] at h; obtain ⟨rfl, rfl⟩ := h
    have a := parts_makes hg hs h1 hi h0 h9 Made.nil (by simp)
    have b := parts_good hg h1 hi h0 h9
    exact Made.one ⟨by simp, by simp [blank], by simp [blank], by simp [blank], by simp [blank], by simp⟩ a.1 (by omega)
theorem rows_makes {s : ByteArray} {d : Nat} {sub : At → Res (Tr × At)} (hz : s.size ≤ 200) (hg : Good s sub) (hs : Makes s sub) : ∀ {n : Nat} {l : List Tr} {x : At} {l' : List Tr} {y : At}, rows sub s d n l x = .ok (l', y) → x.i ≤ s.size → 0 ≤ x.t → x.t ≤ 9 → Made l → l.length ≤ x.i → Made l' ∧ l'.length ≤ y.i + 1
  | 0, _, _, _, _, h, _, _, _, _, _ => by cases h
  | n + 1, l, x, l', y, h, hi, h0, h9, hl, hn => by
    unfold rows at h
    cases h1 : row sub s d x with
    | error f => simp [h1] at h
    | ok v =>
      obtain ⟨t', z⟩ := v
      have g := row_good hg x t' z h1 hi h0 h9
      have m := row_makes hz hg hs x t' z h1 hi h0 h9
      simp only [h1] at h
      split at h
      · rename_i q
        exact rows_makes hz hg hs h (by have := isAt_lt q; simp; omega) g.2.2.1 g.2.2.2 (hl.append m) (by simp; omega)
      · cases h; exact ⟨hl.append m, by simp; omega⟩
theorem choice_makes (s : ByteArray) (hz : s.size ≤ 200) : ∀ k, Makes s (choice s k)
  | 0 => by intro x t y h; cases h
  | k + 1 => by
    intro x t y h hi h0 h9
    unfold choice at h
    cases h1 : rows (choice s k) s (8 - k) (s.size + 1) [] x with
    | error f => simp [h1] at h
    | ok v =>
      obtain ⟨l, z⟩ := v
      simp [h1] at h; obtain ⟨rfl, rfl⟩ := h
      have a := rows_makes hz (choice_good s k) (choice_makes s hz k) h1 hi h0 h9 Made.nil (by simp)
      have b := rows_good (choice_good s k) h1 hi h0 h9
      exact Made.one ⟨by simp, by simp [blank], by simp [blank], by simp [blank], by simp [blank], by simp⟩ a.1 (by omega)

/-- A pattern: the tree, and how many groups are told. -/
def read (s : ByteArray) : Res (Tr × Int) :=
  if s.size > 200 then .error (2, 0)
  else match choice s 9 ⟨0, 0⟩ with
    | .error f => .error f
    | .ok (t, y) => if y.i < s.size then .error (3, y.i) else if size t > 60 then .error (7, 0) else .ok (t, y.t)
end Sp
end Go.Proofs.YtadmlifmcdnhnaaDoor

set_option linter.unusedSimpArgs false
set_option linter.unusedVariables false
namespace Go.Proofs.YtadmlifmcdnhnaaDoor
open Go.RowKit

/-- What the document's 'read' leaves. -/
def ReadOut (s : ByteArray) (w : World) (res : Sp.Res (Tr × Int)) (k : Ending) (w' : World) : Prop :=
  Upd [] w w' ∧ match res with
  | .ok (t, n) => ∃ p r x, k = .returned (.tuple #[ptr p, ptr r]) ∧ PartsAt w' (fun k => w.heap.size ≤ k) [p] [t] ∧ Sp.Made [t] ∧ RdAt w' r s x ∧ x.e = 0 ∧ x.t = n ∧ w.heap.size ≤ r
  | .error (e, a) => e ≠ 0 ∧ ∃ pv r x, k = .returned (.tuple #[.pointer pv, ptr r]) ∧ RdAt w' r s x ∧ x.e = e ∧ x.a = a ∧ w.heap.size ≤ r

theorem Upd.fresh {r : Nat} {w w' : World} (h : Upd [r] w w') (hr : w.heap.size ≤ r) : Upd [] w w' :=
  ⟨h.os, h.tape, h.output, h.size, fun k hk _ => h.block k hk (by simp; omega)⟩

theorem newRd (s : ByteArray) (w : World) : RdAt (w.alloc (.cells #[.string s, .int .i64 0, .int .i64 0, .int .i64 0, .int .i64 0, .int .i64 0, .slice none 0 0, .slice none 0 0] 47)) w.heap.size s ⟨0, 0, 0, 0, 0⟩ := by
  show (w.heap.push _)[w.heap.size]? = _; simp; rfl
theorem readOut_no {s : ByteArray} {w w' : World} {res : Sp.Res (Tr × Int)} {pv : Option Addr} {i r : Nat} {e a d t : Int} (hq : res = .error (e, a)) (he : e ≠ 0) (hu : Upd [r] w w') (hr : w.heap.size ≤ r) (hf : RdAt w' r s ⟨i, e, a, d, t⟩) : ReadOut s w res (.returned (.tuple #[.pointer pv, .pointer (some ⟨r, 0, none⟩)])) w' := by
  subst hq; exact ⟨hu.fresh hr, he, pv, r, _, rfl, hf, rfl, rfl, hr⟩

theorem readOut_ok {s : ByteArray} {w w' : World} {res : Sp.Res (Tr × Int)} {p i : Nat} {t : Tr} {n : Int} (hq : res = .ok (t, n)) (hu : Upd [w.heap.size] w w') (hp : PartsAt w' (fun k => w.heap.size ≤ k) [p] [t]) (hm : Sp.Made [t]) (hf : RdAt w' w.heap.size s ⟨i, 0, 0, 0, n⟩) : ReadOut s w res (.returned (.tuple #[.pointer (some ⟨p, 0, none⟩), .pointer (some ⟨w.heap.size, 0, none⟩)])) w' := by
  subst hq; exact ⟨hu.fresh (Nat.le_refl _), p, _, _, rfl, hp, hm, hf, rfl, rfl, Nat.le_refl _⟩

set_option maxHeartbeats 400000 in
theorem read_long (s : ByteArray) (w : World) (hs : 200 < s.size) :
    Calls Tryd.prog 12 #[.string s] w (ReadOut s w (Sp.read s)) := by
  have HR : Hid (Sp.read s = .error (2, 0)) := by show _ = _; unfold Sp.read; rw [if_pos hs]
  have hs' : (200 : Int) < s.size := by omega
  go_enter Tryd.func12, Tryd.ntmps12
  go_wp2_with fail
  refine (fail_any w.heap.size s ⟨0, 0, 0, 0, 0⟩ _ _ _ (by exact newRd s w)).mono ?_
  rw [RS.fail_ok rfl]
  rintro e w1 ⟨rfl, hu1, hf1⟩
  go_wp2_with fail
  go_ret2
  exact readOut_no HR.out (by decide) (((Upd.refl _ _).alloc _).trans hu1) (Nat.le_refl _) hf1

set_option maxHeartbeats 1000000 in
theorem read_short (s : ByteArray) (w : World) (hs : s.size ≤ 200) :
    Calls Tryd.prog 12 #[.string s] w (ReadOut s w (Sp.read s)) := by
  have HR : Hid (Sp.read s = match Sp.choice s 9 ⟨0, 0⟩ with | .error f => .error f | .ok (t, y) => if y.i < s.size then .error (3, y.i) else if Sp.size t > 60 then .error (7, 0) else .ok (t, y.t)) := by show _ = _; unfold Sp.read; rw [if_neg (by omega)]; rfl
  have hs' : ¬ (200 : Int) < s.size := by omega
  go_enter Tryd.func12, Tryd.ntmps12
  go_wp2_with fail
  refine (choice_all 9 (by decide) (by decide) w.heap.size s ⟨0, 0, 0, 0, 0⟩ _ (by exact newRd s w) hs rfl (Nat.zero_le _) rfl (by decide) (by decide)).mono ?_
  rintro e w2 ⟨hu2, hq2⟩
  have HU2 : Hid (Upd [w.heap.size] w w2) := ((Upd.refl _ _).alloc _).trans hu2
  clear hu2
  revert hq2
  cases hr2 : Sp.choice s 9 ⟨0, 0⟩
  case error f =>
    obtain ⟨e1, a1⟩ := f
    rintro ⟨he1, p, i', t', ps2, rfl, hp2, hpq, hf2⟩
    have HE1 : Hid (e1 ≠ 0) := he1
    have HR' : Hid (Sp.read s = .error (e1, a1)) := by show _ = _; rw [HR.out, hr2]
    have HF2 : Hid (RdAt w2 w.heap.size s ⟨i', e1, a1, 0, t'⟩) := hf2
    obtain ⟨c0, c1, c2, c3, c4, c5, fz⟩ := hf2.facts
    have hb : (e1 == 0) = false := by simpa using he1
    clear hr2 hf2 hpq he1
    unfold ptr
    go_wp2_with fail
    go_quiet (fail)
    go_wp2_with fail
    go_ret2
    exact readOut_no HR'.out HE1.out HU2.out.drewN (Nat.le_refl _) HF2.out
  case ok f =>
    obtain ⟨t, y⟩ := f
    rintro ⟨p, rfl, hq2, hf2⟩
    have hm := Sp.choice_makes s hs 9 ⟨0, 0⟩ t y hr2 (Nat.zero_le _) (by decide) (by decide)
    have hy := Sp.choice_good s 9 ⟨0, 0⟩ t y hr2 (Nat.zero_le _) (by decide) (by decide)
    have HT2 : Hid (PartsAt w2 (fun k => w.heap.size ≤ k) [p] [t]) := PartsAt.mono _ _ _ _ hq2 (fun k hk _ => by simp at hk; omega)
    have HM : Hid (Sp.Made [t]) := hm
    have HF2 : Hid (RdAt w2 w.heap.size s ⟨y.i, 0, 0, 0, y.t⟩) := hf2
    have HC : Hid (Sp.choice s 9 ⟨0, 0⟩ = .ok (t, y)) := hr2
    obtain ⟨c0, c1, c2, c3, c4, c5, fz⟩ := hf2.facts
    clear hr2 hf2 hq2
    unfold ptr
    by_cases hl : y.i < s.size
    · have HR' : Hid (Sp.read s = .error (3, y.i)) := by show _ = _; rw [HR.out, HC.out]; simp [hl]
      have hd : decide ((y.i : Int) < s.size) = true := by simp; omega
      go_wp2_with fail
      go_quiet (fail)
      go_wp2_with fail
      refine (fail_any w.heap.size s ⟨y.i, 0, 0, 0, y.t⟩ _ _ _ (by exact HF2.out)).mono ?_
      rw [RS.fail_ok rfl]
      rintro e w3 ⟨rfl, hu3, hf3⟩
      have HU3 : Hid (Upd [w.heap.size] w w3) := HU2.out.trans hu3.pre
      have HF3 : Hid (RdAt w3 w.heap.size s ⟨y.i, 3, y.i, 0, y.t⟩) := hf3
      clear hu3 hf3 c0 c1 c2 c3 c4 c5 fz
      obtain ⟨c0, c1, c2, c3, c4, c5, fz⟩ := HF3.out.facts
      go_wp2_with fail
      go_ret2
      exact readOut_no HR'.out (by decide) HU3.out (Nat.le_refl _) HF3.out
    · have hd : decide ((y.i : Int) < s.size) = false := by simp; omega
      have HSZ : Hid (∀ n, SizeC p t (w2.drewN n)) := fun n => size_all (w := w2.drewN n) [t] _ [p] (PartsAt.same _ _ _ HT2.out (fun _ _ _ => rfl)) HM.out.1 HM.out.2 0 p t rfl rfl
      have hbd := Sp.size_bd t HM.out.lab.1 HM.out.lab.2.1.1
      go_wp2_with fail
      go_quiet (fail)
      go_wp2_with fail
      have hcall := HSZ.out
      unfold SizeC at hcall
      refine (hcall _).mono ?_
      clear hcall
      rintro e w3 ⟨rfl, hw3⟩
      have HF3 : Hid (RdAt w3 w.heap.size s ⟨y.i, 0, 0, 0, y.t⟩) := by rw [hw3]; exact HF2.out
      have HU3 : Hid (Upd [w.heap.size] w w3) := by rw [hw3]; exact HU2.out.drewN
      have HT3 : Hid (PartsAt w3 (fun k => w.heap.size ≤ k) [p] [t]) := PartsAt.same _ _ _ HT2.out (fun _ _ _ => by rw [hw3]; rfl)
      clear hw3
      by_cases hz : 60 < Sp.size t
      · have HR' : Hid (Sp.read s = .error (7, 0)) := by show _ = _; rw [HR.out, HC.out]; simp [hl, hz]
        go_wp2_with fail
        refine (fail_any w.heap.size s ⟨y.i, 0, 0, 0, y.t⟩ _ _ _ (by exact HF3.out)).mono ?_
        rw [RS.fail_ok rfl]
        rintro e w4 ⟨rfl, hu4, hf4⟩
        go_wp2_with fail
        go_ret2
        exact readOut_no HR'.out (by decide) (HU3.out.trans hu4) (Nat.le_refl _) hf4
      · have HR' : Hid (Sp.read s = .ok (t, y.t)) := by show _ = _; rw [HR.out, HC.out]; simp [hl, hz]
        go_wp2_with fail
        go_ret2
        exact readOut_ok HR'.out HU3.out HT3.out HM.out HF3.out

theorem read_any (s : ByteArray) (w : World) : Calls Tryd.prog 12 #[.string s] w (ReadOut s w (Sp.read s)) := by
  by_cases hs : s.size ≤ 200
  · exact read_short s w hs
  · exact read_long s w (by omega)
end Go.Proofs.YtadmlifmcdnhnaaDoor

/- Printing: no program is named here. -/
set_option linter.unusedSimpArgs false
set_option linter.unusedVariables false
namespace Go.Proofs.YtadmlifmcdnhnaaDoor
namespace Sp

def u8 (n : Int) : UInt8 := UInt8.ofNat n.toNat
/-- A number of one or two digits. -/
def digs (n : Int) : List UInt8 := if 9 < n then [u8 (48 + n / 10), u8 (48 + n % 10)] else [u8 (48 + n)]
def hexB (n : Int) : UInt8 := if n ≤ 9 then u8 (48 + n) else u8 (87 + n)
/-- A byte; in a list, or not. -/
def shown (c : Int) (l : Bool) : List UInt8 :=
  if c = 10 then [92, 110]
  else if c = 9 then [92, 116]
  else if c < 33 ∨ 126 < c then [92, 120, hexB (c / 16), hexB (c % 16)]
  else if (if l then listSign c else sign c) then [92, u8 c]
  else [u8 c]
end Sp
def str (l : List UInt8) : ByteArray := ⟨l.toArray⟩
end Go.Proofs.YtadmlifmcdnhnaaDoor

set_option linter.unusedSimpArgs false
set_option linter.unusedVariables false
namespace Go.Proofs.YtadmlifmcdnhnaaDoor
open Go.RowKit

theorem conv1 (w : World) (x : Int) : (convert 67 9 (.slice (some ⟨w.heap.size, 0, none⟩) 1 1)).run Tryd.prog (w.alloc (.cells #[.int .u8 x] 5)) = .ok (.string (str [Sp.u8 x])) (w.alloc (.cells #[.int .u8 x] 5)) :=
  run_convert_bytes_arg (P := Tryd.prog) (w.alloc (.cells #[.int .u8 x] 5)) 67 5 Tryd.underlying67 Tryd.underlying5 w.heap.size 0 1 1 [x] rfl (fun i hi => by
    obtain rfl : i = 0 := by omega
    simp) 9 Tryd.underlying9
theorem conv2 (w : World) (x y : Int) : (convert 67 9 (.slice (some ⟨w.heap.size, 0, none⟩) 2 2)).run Tryd.prog (w.alloc (.cells #[.int .u8 x, .int .u8 y] 5)) = .ok (.string (str [Sp.u8 x, Sp.u8 y])) (w.alloc (.cells #[.int .u8 x, .int .u8 y] 5)) :=
  run_convert_bytes_arg (P := Tryd.prog) (w.alloc (.cells #[.int .u8 x, .int .u8 y] 5)) 67 5 Tryd.underlying67 Tryd.underlying5 w.heap.size 0 2 2 [x, y] rfl (fun i hi => by
    rcases (by omega : i = 0 ∨ i = 1) with rfl | rfl <;> simp) 9 Tryd.underlying9

theorem ret_str {a b : ByteArray} (h : a = b) : Ending.returned (.string a) = .returned (.string b) := by rw [h]

/-- A text is handed back; nothing old has turned. -/
def StrOut (l : List UInt8) (w : World) (e : Ending) (w' : World) : Prop := e = .returned (.string (str l)) ∧ Upd [] w w'

set_option maxHeartbeats 400000 in
theorem digits_any (n : Int) (w : World) (h0 : 0 ≤ n) (h1 : n ≤ 20) :
    Calls Tryd.prog 22 #[.int .i64 n] w (StrOut (Sp.digs n) w) := by
  have k1 := conv1
  have k2 := conv2
  by_cases h : 9 < n
  · have HR : Hid (Sp.digs n = [Sp.u8 (48 + n / 10), Sp.u8 (48 + n % 10)]) := if_pos h
    go_enter Tryd.func22, Tryd.ntmps22
    go_wp2
    go_ret
    exact ⟨ret_str (by rw [HR.out]), by (repeat (first | exact Upd.refl _ _ | refine Upd.drewN ?_ | refine Upd.drew ?_ | refine Upd.setCell ?_ (by simp) _ | refine Upd.alloc ?_ _))⟩
  · have HR : Hid (Sp.digs n = [Sp.u8 (48 + n)]) := if_neg h
    go_enter Tryd.func22, Tryd.ntmps22
    go_wp2
    go_ret
    exact ⟨ret_str (by rw [HR.out]), by (repeat (first | exact Upd.refl _ _ | refine Upd.drewN ?_ | refine Upd.drew ?_ | refine Upd.setCell ?_ (by simp) _ | refine Upd.alloc ?_ _))⟩

def hexes : ByteArray := ⟨#[48, 49, 50, 51, 52, 53, 54, 55, 56, 57, 97, 98, 99, 100, 101, 102]⟩
theorem hexAt (n : Int) (h0 : 0 ≤ n) (h1 : n < 16) : hexes.extract n.toNat (n + 1).toNat = str [Sp.hexB n] := by
  rcases (by omega : n = 0 ∨ n = 1 ∨ n = 2 ∨ n = 3 ∨ n = 4 ∨ n = 5 ∨ n = 6 ∨ n = 7 ∨ n = 8 ∨ n = 9 ∨ n = 10 ∨ n = 11 ∨ n = 12 ∨ n = 13 ∨ n = 14 ∨ n = 15) with rfl | rfl | rfl | rfl | rfl | rfl | rfl | rfl | rfl | rfl | rfl | rfl | rfl | rfl | rfl | rfl <;> decide
theorem str_append (a b : List UInt8) : str a ++ str b = str (a ++ b) := by
  apply ByteArray.ext
  simp [str, ByteArray.data_append]

set_option maxHeartbeats 400000 in
theorem shown_any (c : Int) (l : Bool) (w : World) (h0 : 0 ≤ c) (h1 : c ≤ 255) :
    Calls Tryd.prog 36 #[.int .i64 c, .bool l] w (StrOut (Sp.shown c l) w) := by
  by_cases g1 : c = 10
  · subst g1
    go_enter Tryd.func36, Tryd.ntmps36
    go_wp2_with (go_at_call 51; refine (sign_any _ _).mono ?_; rintro e w' ⟨rfl, hw⟩; subst hw)
    go_ret
    exact ⟨ret_str rfl, by (repeat (first | exact Upd.refl _ _ | refine Upd.drewN ?_ | refine Upd.drew ?_ | refine Upd.setCell ?_ (by simp) _ | refine Upd.alloc ?_ _))⟩
  by_cases g2 : c = 9
  · subst g2
    go_enter Tryd.func36, Tryd.ntmps36
    go_wp2_with (go_at_call 51; refine (sign_any _ _).mono ?_; rintro e w' ⟨rfl, hw⟩; subst hw)
    go_ret
    exact ⟨ret_str rfl, by (repeat (first | exact Upd.refl _ _ | refine Upd.drewN ?_ | refine Upd.drew ?_ | refine Upd.setCell ?_ (by simp) _ | refine Upd.alloc ?_ _))⟩
  have e1 : (c == 10) = false := by simpa using g1
  have e2 : (c == 9) = false := by simpa using g2
  by_cases g3 : c < 33 ∨ 126 < c
  · have HR : Hid (Sp.shown c l = [92, 120, Sp.hexB (c / 16), Sp.hexB (c % 16)]) := by show _ = _; unfold Sp.shown; rw [if_neg g1, if_neg g2, if_pos g3]
    have HA : Hid (hexes.extract (c / 16).toNat (c / 16 + 1).toNat = str [Sp.hexB (c / 16)]) := hexAt _ (by omega) (by omega)
    have HB : Hid (hexes.extract (c % 16).toNat (c % 16 + 1).toNat = str [Sp.hexB (c % 16)]) := hexAt _ (by omega) (by omega)
    clear g1 g2
    rcases g3 with g3 | g3
    all_goals
      go_enter Tryd.func36, Tryd.ntmps36
      go_wp2_with (go_at_call 51; refine (sign_any _ _).mono ?_; rintro e w' ⟨rfl, hw⟩; subst hw)
      go_quiet (fail)
      go_wp2
      go_ret
      refine ⟨ret_str ?_, by (repeat (first | exact Upd.refl _ _ | refine Upd.drewN ?_ | refine Upd.drew ?_ | refine Upd.setCell ?_ (by simp) _ | refine Upd.alloc ?_ _))⟩
      rw [HR.out]
      show (str [92, 120] ++ hexes.extract _ _) ++ hexes.extract _ _ = _
      rw [HA.out, HB.out, str_append, str_append]; rfl
  have k1 := conv1
  have g4 : ¬ c < 33 := by omega
  have g5 : ¬ 126 < c := by omega
  have HS : Hid (Sp.shown c l = if (if l then Sp.listSign c else Sp.sign c) then [92, Sp.u8 c] else [Sp.u8 c]) := by show _ = _; unfold Sp.shown; rw [if_neg g1, if_neg g2, if_neg g3]
  clear g1 g2 g3
  by_cases hs : Sp.sign c = true
  · have HR : Hid (Sp.shown c l = [92, Sp.u8 c]) := by show _ = _; rw [HS.out]; cases l <;> simp [Sp.listSign, hs]
    go_enter Tryd.func36, Tryd.ntmps36
    go_wp2_with (go_at_call 51; refine (sign_any _ _).mono ?_; rintro e w' ⟨rfl, hw⟩; subst hw)
    go_ret
    refine ⟨ret_str ?_, by (repeat (first | exact Upd.refl _ _ | refine Upd.drewN ?_ | refine Upd.drew ?_ | refine Upd.setCell ?_ (by simp) _ | refine Upd.alloc ?_ _))⟩
    rw [HR.out]
    show str [92] ++ str [Sp.u8 c] = _
    rw [str_append]; rfl
  have hs : Sp.sign c = false := by simpa using hs
  cases l with
  | false =>
    have HR : Hid (Sp.shown c false = [Sp.u8 c]) := by show _ = _; rw [HS.out]; simp [hs]
    go_enter Tryd.func36, Tryd.ntmps36
    go_wp2_with (go_at_call 51; refine (sign_any _ _).mono ?_; rintro e w' ⟨rfl, hw⟩; subst hw)
    go_ret
    exact ⟨ret_str (by rw [HR.out]), by (repeat (first | exact Upd.refl _ _ | refine Upd.drewN ?_ | refine Upd.drew ?_ | refine Upd.setCell ?_ (by simp) _ | refine Upd.alloc ?_ _))⟩
  | true =>
    by_cases g6 : c = 45
    · subst g6
      go_enter Tryd.func36, Tryd.ntmps36
      go_wp2_with (go_at_call 51; refine (sign_any _ _).mono ?_; rintro e w' ⟨rfl, hw⟩; subst hw)
      go_ret
      refine ⟨ret_str ?_, by (repeat (first | exact Upd.refl _ _ | refine Upd.drewN ?_ | refine Upd.drew ?_ | refine Upd.setCell ?_ (by simp) _ | refine Upd.alloc ?_ _))⟩
      rw [HS.out]
      show str [92] ++ str [Sp.u8 45] = _
      rw [str_append]; rfl
    by_cases g7 : c = 94
    · subst g7
      go_enter Tryd.func36, Tryd.ntmps36
      go_wp2_with (go_at_call 51; refine (sign_any _ _).mono ?_; rintro e w' ⟨rfl, hw⟩; subst hw)
      go_ret
      refine ⟨ret_str ?_, by (repeat (first | exact Upd.refl _ _ | refine Upd.drewN ?_ | refine Upd.drew ?_ | refine Upd.setCell ?_ (by simp) _ | refine Upd.alloc ?_ _))⟩
      rw [HS.out]
      show str [92] ++ str [Sp.u8 94] = _
      rw [str_append]; rfl
    have e6 : (c == 45) = false := by simpa using g6
    have e7 : (c == 94) = false := by simpa using g7
    have HR : Hid (Sp.shown c true = [Sp.u8 c]) := by show _ = _; rw [HS.out]; simp [Sp.listSign, hs, g6, g7]
    clear g6 g7
    go_enter Tryd.func36, Tryd.ntmps36
    go_wp2_with (go_at_call 51; refine (sign_any _ _).mono ?_; rintro e w' ⟨rfl, hw⟩; subst hw)
    go_ret
    exact ⟨ret_str (by rw [HR.out]), by (repeat (first | exact Upd.refl _ _ | refine Upd.drewN ?_ | refine Upd.drew ?_ | refine Upd.setCell ?_ (by simp) _ | refine Upd.alloc ?_ _))⟩
end Go.Proofs.YtadmlifmcdnhnaaDoor

/- Lists as they are printed: no program is named here. -/
set_option linter.unusedSimpArgs false
set_option linter.unusedVariables false
namespace Go.Proofs.YtadmlifmcdnhnaaDoor
namespace Sp

/-- The last byte that goes on from c. -/
def runLast (f : Nat → Bool) : Nat → Nat → Nat
  | 0, c => c
  | n + 1, c => if c < 255 ∧ f (c + 1) = true then runLast f n (c + 1) else c
theorem runLast_ge (f : Nat → Bool) : ∀ n c, c ≤ runLast f n c
  | 0, c => Nat.le_refl _
  | n + 1, c => by
    unfold runLast; split
    · have := runLast_ge f n (c + 1); omega
    · exact Nat.le_refl _
theorem runLast_le (f : Nat → Bool) : ∀ n c, c ≤ 255 → runLast f n c ≤ 255
  | 0, c, h => h
  | n + 1, c, h => by
    unfold runLast; split
    · exact runLast_le f n (c + 1) (by omega)
    · exact h
def piece (c last : Nat) : List UInt8 :=
  if last = c then shown c true else if last = c + 1 then shown c true ++ shown last true else shown c true ++ [45] ++ shown last true
def listedFrom (f : Nat → Bool) : Nat → Nat → List UInt8
  | 0, _ => []
  | n + 1, c => if c < 256 then (if f c then piece c (runLast f 256 c) ++ listedFrom f n (runLast f 256 c + 1) else listedFrom f n (c + 1)) else []
def listed (f : Nat → Bool) : List UInt8 := listedFrom f 257 0
theorem listedFrom_out (f : Nat → Bool) (n c : Nat) (h : 256 ≤ c) : listedFrom f n c = [] := by
  cases n with
  | zero => rfl
  | succ n => unfold listedFrom; rw [if_neg (by omega)]
end Sp
end Go.Proofs.YtadmlifmcdnhnaaDoor

set_option linter.unusedSimpArgs false
set_option linter.unusedVariables false
namespace Go.Proofs.YtadmlifmcdnhnaaDoor
open Go.RowKit

theorem str_size (l : List UInt8) : (str l).size = l.length := by simp [str, ByteArray.size]
/-- Kept from simp. -/
def cat (a b : List UInt8) : List UInt8 := a ++ b
theorem cat_len (a b : List UInt8) : (cat a b).length = a.length + b.length := by simp [cat]
theorem addS (a b : List UInt8) (ha : a.length ≤ 8000000) (hb : b.length ≤ 8000000) (w : World) : (Op.stringOp .add (str a) (str b)).run Tryd.prog w = .ok (.string (str (cat a b))) w := by
  rw [run_string_add (P := Tryd.prog) (w := w) (str a) (str b) (by rw [str_size]; omega) (by rw [str_size]; omega), str_append]; rfl
theorem shown_len (c : Int) (l : Bool) : (Sp.shown c l).length ≤ 4 := by unfold Sp.shown; (repeat' split) <;> simp

structure ListedInv (f : Nat → Bool) (w : World) (n : Nat) (s c : Value) (wr : World) : Prop where
  upd : Upd [] w wr
  st : ∃ acc cc, s = .string (str acc) ∧ c = .int .i64 ((cc : Nat) : Int) ∧ Sp.listed f = acc ++ Sp.listedFrom f n cc ∧ 257 ≤ n + cc ∧ cc ≤ 256 ∧ acc.length ≤ 9 * cc
structure RunInv (f : Nat → Bool) (w : World) (c0 n : Nat) (last : Value) (wr : World) : Prop where
  world : wr = w
  st : ∃ cc, last = .int .i64 ((cc : Nat) : Int) ∧ Sp.runLast f 256 c0 = Sp.runLast f n cc ∧ 256 ≤ n + cc ∧ c0 ≤ cc ∧ cc ≤ 255

theorem runLast_zero (f : Nat → Bool) (n cc : Nat) (h : 256 ≤ n + cc) (hc : cc ≤ 255) : ∃ m, n = m + 1 := ⟨n - 1, by omega⟩

set_option maxRecDepth 100000 in
set_option maxHeartbeats 1000000 in
theorem listed_any (f : Nat → Bool) (c : Array Value) (hc : c.size = 256) (hf : ∀ i, i < 256 → c[i]? = some (.bool (f i))) (w : World) :
    Calls Tryd.prog 37 #[.agg c] w (StrOut (Sp.listed f) w) := by
  have hcell : ∀ i, i < 256 → (w.alloc (.cells c 75)).cell? ⟨w.heap.size, i, none⟩ = some (.bool (f i)) := fun i hi => by simp [hf i hi]
  have hsz : w.heap.size < (w.alloc (.cells c 75)).heap.size := by simp
  have HU0 : Hid (Upd [] w (w.alloc (.cells c 75))) := (Upd.refl _ _).alloc _
  go_enter Tryd.func37, Tryd.ntmps37
  go_wp2_with fail
  clear hf hc
  generalize hw1 : w.alloc (.cells c 75) = w1 at *
  clear hw1
  go_loopg [3, 4] 257 (fun gn s cv wr => ListedInv f w1 gn s cv wr)
  case atStart => exact ⟨Upd.refl _ _, [], 0, rfl, rfl, rfl, by omega, by omega, by simp⟩
  case round =>
    obtain ⟨hu, acc, cc, rfl, rfl, heq, hn, hcc, hal⟩ := hrel
    have hcr : ∀ i, i < 256 → wr.cell? ⟨w.heap.size, i, none⟩ = some (.bool (f i)) := fun i hi => by
      rw [World.cell?_of_block (w := w1) (hu.block w.heap.size hsz (by simp))]; exact hcell i hi
    clear hcell
    have HU : Hid (Upd [] w1 wr) := hu
    have HQ : Hid (Sp.listed f = acc ++ Sp.listedFrom f gk cc) := heq
    clear hu heq
    by_cases hlt : cc < 256
    · obtain ⟨fuel, rfl⟩ : ∃ n, gk = n + 1 := ⟨gk - 1, by omega⟩
      have hc1 := hcr cc hlt
      cases hfc : f cc
      case false =>
        have HN : Hid (Sp.listed f = acc ++ Sp.listedFrom f fuel (cc + 1)) := by show _ = _; rw [HQ.out, Sp.listedFrom, if_pos hlt, if_neg (by simp [hfc])]
        rw [hfc] at hc1
        clear hcr hfc
        go_wp2_with fail
        go_roundg fuel
        case measure => omega
        case rel => exact ⟨HU.out, acc, cc + 1, rfl, by go_num, HN.out, by omega, by omega, by omega⟩
      case true =>
        obtain ⟨last, hlast⟩ : ∃ l, Sp.runLast f 256 cc = l := ⟨_, rfl⟩
        have hl1 : cc ≤ last := by rw [← hlast]; exact Sp.runLast_ge f 256 cc
        have hl2 : last ≤ 255 := by rw [← hlast]; exact Sp.runLast_le f 256 cc (by omega)
        have HN : Hid (Sp.listed f = acc ++ (Sp.piece cc last ++ Sp.listedFrom f fuel (last + 1))) := by show _ = _; rw [HQ.out, Sp.listedFrom, if_pos hlt, if_pos hfc, hlast]
        have HL : Hid (Sp.runLast f 256 cc = last) := hlast
        rw [hfc] at hc1
        have HCR : Hid (∀ i, i < 256 → wr.cell? ⟨w.heap.size, i, none⟩ = some (.bool (f i))) := hcr
        clear hcr hfc hlast
        have hdec : decide ((cc : Int) < 256) = true := by simp; omega
        go_wp2_with fail
        go_loopg [5] 256 (fun gn lv wi => RunInv f wr cc gn lv wi)
        case atStart => exact ⟨rfl, cc, rfl, rfl, by omega, by omega, by omega⟩
        case round =>
          obtain ⟨hwi, lc, rfl, hrl, hgn, hlc0, hlc1⟩ := hrel
          subst hwi
          obtain ⟨fu2, rfl⟩ : ∃ n, gk = n + 1 := ⟨gk - 1, by omega⟩
          by_cases h255 : lc < 255
          · have hc2 := HCR.out (lc + 1) (by omega)
            cases hf2 : f (lc + 1)
            case true =>
              have HRL : Hid (Sp.runLast f 256 cc = Sp.runLast f fu2 (lc + 1)) := by show _ = _; rw [hrl, Sp.runLast, if_pos ⟨h255, hf2⟩]
              rw [hf2] at hc2
              clear hrl hf2
              go_wp2_with fail
              go_roundg fu2
              case measure => omega
              case rel => exact ⟨rfl, lc + 1, by go_num, HRL.out, by omega, by omega, by omega⟩
            case false =>
              have hle : lc = last := by rw [← HL.out, hrl, Sp.runLast, if_neg (by simp [hf2])]
              rw [hf2] at hc2
              clear hrl hf2
              have HN' : Hid (Sp.listed f = acc ++ (Sp.piece cc lc ++ Sp.listedFrom f fuel (lc + 1))) := by show _ = _; rw [hle]; exact HN.out
              clear hle HN HL HCR
              go_wp2_with fail
              refine (shown_any cc true _ (by omega) (by omega)).mono ?_
              rintro e w3 ⟨rfl, hu3⟩
              have HU3 : Hid (Upd [] w1 w3) := HU.out.trans hu3
              clear hu3
              go_wp2_with fail
              refine (shown_any lc true _ (by omega) (by omega)).mono ?_
              rintro e w4 ⟨rfl, hu4⟩
              have HU4 : Hid (Upd [] w1 w4) := HU3.out.trans hu4
              clear hu4
              have s1 := shown_len cc true
              have s2 := shown_len lc true
              have k1 := addS acc (Sp.shown cc true) (by omega) (by omega)
              have k2 := addS (cat acc (Sp.shown cc true)) (Sp.shown lc true) (by rw [cat_len]; omega) (by omega)
              have k3 : ∀ w, (Op.stringOp .add (str (cat acc (Sp.shown cc true))) ⟨#[45]⟩).run Tryd.prog w = .ok (.string (str (cat (cat acc (Sp.shown cc true)) [45]))) w := addS _ [45] (by rw [cat_len]; omega) (by simp)
              have k4 := addS (cat (cat acc (Sp.shown cc true)) [45]) (Sp.shown lc true) (by rw [cat_len, cat_len]; simp; omega) (by omega)
              by_cases hd0 : lc = cc
              · have hb0 : (((lc : Int) - (cc : Int)) == 0) = true := by simp; omega
                have HP : Hid (Sp.piece cc lc = Sp.shown cc true) := if_pos hd0
                clear hd0
                go_wp2_with fail
                go_roundg fuel
                case measure => omega
                case rel => exact ⟨HU4.out, acc ++ Sp.piece cc lc, lc + 1, by rw [HP.out]; rfl, by go_num, by rw [HN'.out, List.append_assoc], by omega, by omega, by rw [HP.out]; simp; omega⟩
              have hb0 : (((lc : Int) - (cc : Int)) == 0) = false := by simp; omega
              by_cases hd1 : lc = cc + 1
              · have hb1 : (((lc : Int) - (cc : Int)) == 1) = true := by simp; omega
                have HP : Hid (Sp.piece cc lc = Sp.shown cc true ++ Sp.shown lc true) := by show _ = _; unfold Sp.piece; rw [if_neg hd0, if_pos hd1]
                clear hd0 hd1
                go_wp2_with fail
                go_roundg fuel
                case measure => omega
                case rel => exact ⟨HU4.out, acc ++ Sp.piece cc lc, lc + 1, by rw [HP.out, ← List.append_assoc]; rfl, by go_num, by rw [HN'.out, List.append_assoc], by omega, by omega, by rw [HP.out]; simp; omega⟩
              have hb1 : (((lc : Int) - (cc : Int)) == 1) = false := by simp; omega
              have HP : Hid (Sp.piece cc lc = Sp.shown cc true ++ [45] ++ Sp.shown lc true) := by show _ = _; unfold Sp.piece; rw [if_neg hd0, if_neg hd1]
              clear hd0 hd1
              go_wp2_with fail
              go_roundg fuel
              case measure => omega
              case rel => exact ⟨HU4.out, acc ++ Sp.piece cc lc, lc + 1, by rw [HP.out, ← List.append_assoc, ← List.append_assoc]; rfl, by go_num, by rw [HN'.out, List.append_assoc], by omega, by omega, by rw [HP.out]; simp; omega⟩
          · have hle : lc = last := by rw [← HL.out, hrl, Sp.runLast, if_neg (by omega)]
            clear hrl
            have HN' : Hid (Sp.listed f = acc ++ (Sp.piece cc lc ++ Sp.listedFrom f fuel (lc + 1))) := by show _ = _; rw [hle]; exact HN.out
            clear hle HN HL HCR
            go_wp2_with fail
            refine (shown_any cc true _ (by omega) (by omega)).mono ?_
            rintro e w3 ⟨rfl, hu3⟩
            have HU3 : Hid (Upd [] w1 w3) := HU.out.trans hu3
            clear hu3
            go_wp2_with fail
            refine (shown_any lc true _ (by omega) (by omega)).mono ?_
            rintro e w4 ⟨rfl, hu4⟩
            have HU4 : Hid (Upd [] w1 w4) := HU3.out.trans hu4
            clear hu4
            have s1 := shown_len cc true
            have s2 := shown_len lc true
            have k1 := addS acc (Sp.shown cc true) (by omega) (by omega)
            have k2 := addS (cat acc (Sp.shown cc true)) (Sp.shown lc true) (by rw [cat_len]; omega) (by omega)
            have k3 : ∀ w, (Op.stringOp .add (str (cat acc (Sp.shown cc true))) ⟨#[45]⟩).run Tryd.prog w = .ok (.string (str (cat (cat acc (Sp.shown cc true)) [45]))) w := addS _ [45] (by rw [cat_len]; omega) (by simp)
            have k4 := addS (cat (cat acc (Sp.shown cc true)) [45]) (Sp.shown lc true) (by rw [cat_len, cat_len]; simp; omega) (by omega)
            by_cases hd0 : lc = cc
            · have hb0 : (((lc : Int) - (cc : Int)) == 0) = true := by simp; omega
              have HP : Hid (Sp.piece cc lc = Sp.shown cc true) := if_pos hd0
              clear hd0
              go_wp2_with fail
              go_roundg fuel
              case measure => omega
              case rel => exact ⟨HU4.out, acc ++ Sp.piece cc lc, lc + 1, by rw [HP.out]; rfl, by go_num, by rw [HN'.out, List.append_assoc], by omega, by omega, by rw [HP.out]; simp; omega⟩
            have hb0 : (((lc : Int) - (cc : Int)) == 0) = false := by simp; omega
            by_cases hd1 : lc = cc + 1
            · have hb1 : (((lc : Int) - (cc : Int)) == 1) = true := by simp; omega
              have HP : Hid (Sp.piece cc lc = Sp.shown cc true ++ Sp.shown lc true) := by show _ = _; unfold Sp.piece; rw [if_neg hd0, if_pos hd1]
              clear hd0 hd1
              go_wp2_with fail
              go_roundg fuel
              case measure => omega
              case rel => exact ⟨HU4.out, acc ++ Sp.piece cc lc, lc + 1, by rw [HP.out, ← List.append_assoc]; rfl, by go_num, by rw [HN'.out, List.append_assoc], by omega, by omega, by rw [HP.out]; simp; omega⟩
            have hb1 : (((lc : Int) - (cc : Int)) == 1) = false := by simp; omega
            have HP : Hid (Sp.piece cc lc = Sp.shown cc true ++ [45] ++ Sp.shown lc true) := by show _ = _; unfold Sp.piece; rw [if_neg hd0, if_neg hd1]
            clear hd0 hd1
            go_wp2_with fail
            go_roundg fuel
            case measure => omega
            case rel => exact ⟨HU4.out, acc ++ Sp.piece cc lc, lc + 1, by rw [HP.out, ← List.append_assoc, ← List.append_assoc]; rfl, by go_num, by rw [HN'.out, List.append_assoc], by omega, by omega, by rw [HP.out]; simp; omega⟩
    · have hcc' : cc = 256 := by omega
      subst hcc'
      have HN : Hid (Sp.listed f = acc) := by show _ = _; rw [HQ.out, Sp.listedFrom_out _ _ _ (by omega), List.append_nil]
      clear hcr
      go_wp2_with fail
      go_ret
      exact ⟨ret_str (by rw [HN.out]), HU0.out.trans HU.out⟩
end Go.Proofs.YtadmlifmcdnhnaaDoor
