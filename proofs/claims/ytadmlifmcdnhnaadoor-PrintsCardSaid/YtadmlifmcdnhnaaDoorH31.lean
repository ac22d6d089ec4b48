import Derived.Test.YtadmlifmcdnhnaaDoorH30
set_option linter.unusedSimpArgs false
set_option linter.unusedVariables false
namespace Go.Proofs.YtadmlifmcdnhnaaDoor
open Go.RowKit

theorem PdAt.upd {l : List Nat} {w w' : World} {r : Nat} {s : ByteArray} {x : RS} (h : PdAt w r s x) (u : Upd l w w') (hr : r ∉ l) : PdAt w' r s x := by
  unfold PdAt at *; rw [u.block r (lt_of_heap h) hr]; exact h
theorem PdAt.alloc {w : World} {r : Nat} {s : ByteArray} {x : RS} (h : PdAt w r s x) (o : Obj) : PdAt (w.alloc o) r s x := by
  unfold PdAt at *; rw [Below.heap_alloc _ _ _ (lt_of_heap h)]; exact h
theorem SetAt.upd {l : List Nat} {w w' : World} {p : Nat} {f : Nat → Bool} (h : SetAt w p f) (u : Upd l w w') (hp : p ∉ l) : SetAt w' p f := by
  unfold SetAt at *; rw [u.block p (lt_of_heap h) hp]; exact h
theorem SetAt.lt {w : World} {p : Nat} {f : Nat → Bool} (h : SetAt w p f) : p < w.heap.size := lt_of_heap h
theorem word_none (b : Nat) : ∀ n, word (fun _ => false) b n = 0
  | 0 => rfl
  | n + 1 => by rw [word, word_none b n]; rfl
theorem SetAt.new {w : World} {p : Nat} {c : Array Value} (hc : c = #[.int .u64 0, .int .u64 0, .int .u64 0, .int .u64 0]) (hp : p = w.heap.size) : SetAt (w.alloc (.cells c 63)) p (fun _ => false) := by
  subst hp hc; unfold SetAt setCells
  rw [word_none, word_none, word_none, word_none]
  show (w.heap.push _)[w.heap.size]? = _; simp
theorem item_bd {s : ByteArray} {i j : Nat} {a b : Int} (h : Sp.item s i = .ok (a, b, j)) : 0 ≤ a ∧ a ≤ b ∧ b ≤ 255 := by
  unfold Sp.item at h
  cases h1 : Sp.byteBut true s i with
  | error f => rw [h1] at h; cases h
  | ok p =>
    obtain ⟨a1, j1⟩ := p
    rw [h1] at h
    have b1 := byteBut_ok h1
    simp only at h
    split at h
    · cases h2 : Sp.byteBut true s (j1 + 1) with
      | error f => rw [h2] at h; cases h
      | ok p =>
        obtain ⟨a2, j2⟩ := p
        rw [h2] at h
        have b2 := byteBut_ok h2
        simp only at h
        split at h
        · cases h
        · cases h; omega
    · cases h; omega
theorem NodesAt.leaf {w : World} {S : Nat → Prop} {p : Nat} {a : Lab} (hm : a.min < 0) (hk : a.kind ≤ 2) (hS : S p) (h : TnAt w p (tnOf a 1 (.slice none 0 0))) : NodesAt w S [p] [⟨a, []⟩] := by
  rw [NodesAt_cons]
  refine ⟨⟨p, .slice none 0 0, [], Or.inl ⟨hm, rfl⟩, hS, ?_, World.ownsRow_nil _ _ _ _, by intro g hg; simp [Value.ownBlock] at hg, NodesAt_nil _ _⟩, NodesAt_nil _ _⟩
  rw [psz_leaf (t := bareOf ⟨a, []⟩) (by simp [bareOf]) hk rfl]; exact h

def lLab (set : Nat → Bool) (b : Bool) : Lab := { Sp.blank with kind := 2, set := set, not := b }
structure PListInv (r p : Nat) (s : ByteArray) (x : RS) (j0 : Nat) (w : World) (n : Nat) (wr : World) : Prop where
  upd : Upd [r] w wr
  st : ∃ set i, PdAt wr r s ⟨i, x.e, x.a, x.d, x.t⟩ ∧ SetAt wr p set ∧ Sp.items s (s.size + 1) (fun _ => false) j0 = Sp.items s n set i ∧ s.size + 1 ≤ n + i ∧ i ≤ s.size

theorem list_is {s : ByteArray} {x : RS} {b : Bool} {j0 : Nat} (hb : Sp.isAt s x.i 94 = b) (hj : j0 = if b then x.i + 1 else x.i) :
    listR s x = match Sp.items s (s.size + 1) (fun _ => false) j0 with | .error f => .error f | .ok (set, k) => .ok (⟨lLab set b, []⟩, ⟨k, x.t⟩) := by
  unfold listR Sp.list
  subst hb hj
  simp only
  cases Sp.items s (s.size + 1) (fun _ => false) (if Sp.isAt s x.i 94 = true then x.i + 1 else x.i) with
  | error f => rfl
  | ok p => rfl

set_option maxHeartbeats 1000000 in
theorem pList_any (r : Nat) (s : ByteArray) (x : RS) (w : World) (h : PdAt w r s x) (hi : x.i ≤ s.size) (hs : s.size ≤ 200) :
    Calls Tryd.prog 73 #[.pointer (some ⟨r, 0, none⟩)] w (PNodeOut r s x w (listR s x)) := by
  have hr := lt_of_heap h
  have hh : Hid (PdAt w r s x) := h
  obtain ⟨b, HB⟩ : ∃ b, Hid (Sp.isAt s x.i 94 = b) := ⟨_, (rfl : Sp.isAt s x.i 94 = _)⟩
  obtain ⟨j0, HJ⟩ : ∃ j0, Hid (j0 = if b then x.i + 1 else x.i) := ⟨_, (rfl : (if b then x.i + 1 else x.i) = _)⟩
  have hj0 : j0 ≤ s.size := by
    rw [HJ.out]; cases hb : b with
    | true => have := Sp.isAt_lt (HB.out.trans hb); simp; omega
    | false => simpa using hi
  have HL := list_is HB.out HJ.out
  have HL' : Hid (listR s x = match Sp.items s (s.size + 1) (fun _ => false) j0 with | .error f => .error f | .ok (set, k) => .ok (⟨lLab set b, []⟩, ⟨k, x.t⟩)) := HL
  clear h HL
  go_enter Tryd.func73, Tryd.ntmps73
  go_wp2_with fail
  refine (pTake_any r s x _ _ (by exact hh.out) hi hs).mono ?_
  rintro e w1 ⟨rfl, hu1, hf1⟩
  rw [show Sp.isAt s x.i 94 = b from HB.out] at hf1 ⊢
  have HF1 : Hid (PdAt w1 r s ⟨j0, x.e, x.a, x.d, x.t⟩) := by
    show PdAt _ _ _ _; rw [HJ.out]; cases b <;> exact hf1
  have HU1 : Hid (Upd [r] w w1) := hu1
  have hsz := hu1.size
  clear hf1 hu1 hh
  go_wp2_with fail
  go_loopg [] (s.size + 1) (fun gn wr => PListInv r w1.heap.size s x j0 w gn wr)
  case atStart => exact ⟨HU1.out.alloc _, fun _ => false, j0, HF1.out.alloc _, SetAt.new rfl rfl, rfl, by omega, hj0⟩
  case round =>
    obtain ⟨hu, set, i, hf, hset, heq, hgn, hi⟩ := hrel
    clear HF1 HU1
    have HF : Hid (PdAt wr r s ⟨i, x.e, x.a, x.d, x.t⟩) := hf
    have HS : Hid (SetAt wr w1.heap.size set) := hset
    have HU : Hid (Upd [r] w wr) := hu
    obtain ⟨fuel, rfl⟩ : ∃ n, gk = n + 1 := ⟨gk - 1, by omega⟩
    have HQ : Hid (Sp.items s (s.size + 1) (fun _ => false) j0 = Sp.items s (fuel + 1) set i) := heq
    have hrp : r ≠ w1.heap.size := by omega
    clear hf hset hu heq
    cases h1 : Sp.item s i with
    | error p =>
      obtain ⟨e1, a1⟩ := p
      have H1 : Hid (Sp.item s i = .error (e1, a1)) := h1
      have HR : Hid (listR s x = .error (e1, a1)) := by show _ = _; rw [HL'.out, HQ.out, items_succ, h1]
      clear h1
      go_wp2_with fail
      refine (pItem_any r s ⟨i, x.e, x.a, x.d, x.t⟩ _ (by exact HF.out) hi hs).mono ?_
      rw [show Sp.item s _ = _ from H1.out]
      rintro e w2 ⟨hu2, m, n, i', rfl, hf2⟩
      go_wp2_with fail
      go_ret2
      exact PNodeOut.mk_error _ _ i' x.t HR.out (HU.out.trans hu2) rfl hf2
    | ok p =>
      obtain ⟨a, bb, j⟩ := p
      have H1 : Hid (Sp.item s i = .ok (a, bb, j)) := h1
      obtain ⟨hij, hj⟩ := Sp.item_in h1
      obtain ⟨ha0, hab, hb2⟩ := item_bd h1
      have HQ2 : Hid (Sp.items s (s.size + 1) (fun _ => false) j0 = after s fuel (Sp.add set a bb) j) := by show _ = _; rw [HQ.out, items_succ, h1]
      clear h1
      go_wp2_with fail
      refine (pItem_any r s ⟨i, x.e, x.a, x.d, x.t⟩ _ (by exact HF.out) hi hs).mono ?_
      rw [show Sp.item s _ = _ from H1.out]
      rintro e w2 ⟨hu2, rfl, hf2⟩
      have HU2 : Hid (Upd [r] w w2) := HU.out.trans hu2
      have HS2 : Hid (SetAt w2 w1.heap.size set) := HS.out.upd hu2 (by simpa using hrp.symm)
      have HF2 : Hid (PdAt w2 r s ⟨j, x.e, x.a, x.d, x.t⟩) := hf2
      clear hu2 hf2
      go_wp2_with fail
      refine (tAdd_any w1.heap.size set a bb _ (by exact HS2.out) ha0 hab hb2).mono ?_
      rintro e w3 ⟨rfl, hu3, hs3⟩
      have HU3 : Hid (Upd [r] w w3) := HU2.out.shrink hu3 (fun q hq => by right; simp at hq; omega)
      have HS3 : Hid (SetAt w3 w1.heap.size (Sp.add set a bb)) := hs3
      have HF3 : Hid (PdAt w3 r s ⟨j, x.e, x.a, x.d, x.t⟩) := HF2.out.upd hu3 (by simpa using hrp)
      clear hu3 hs3
      cases h2 : Sp.isAt s j 93 with
      | true =>
        have H2 : Hid (Sp.isAt s j 93 = true) := h2
        have HR : Hid (listR s x = .ok (⟨lLab (Sp.add set a bb) b, []⟩, ⟨j + 1, x.t⟩)) := by show _ = _; rw [HL'.out, HQ2.out]; unfold after; rw [h2]; rfl
        clear h2
        go_wp2_with fail
        refine (pTake_yes r s ⟨j, x.e, x.a, x.d, x.t⟩ _ _ (by exact HF3.out) hs H2.out).mono ?_
        rintro e w4 ⟨rfl, hu4, hf4⟩
        have HU4 : Hid (Upd [r] w w4) := HU3.out.trans hu4
        have HF4 : Hid (PdAt w4 r s ⟨j + 1, x.e, x.a, x.d, x.t⟩) := hf4
        have HS4 : Hid (SetAt w4 w1.heap.size (Sp.add set a bb)) := HS3.out.upd hu4 (by simpa using hrp.symm)
        obtain ⟨c0, c1, c2, c3, fz⟩ := HS4.out.facts
        clear hu4 hf4
        go_wp2_with fail
        refine (tList_any _ _ _ _ b _).mono ?_
        rintro e w5 ⟨p, rfl, hp, hu5, ht5⟩
        go_wp2_with fail
        go_ret2
        exact PNodeOut.mk_ok _ _ p HR.out (HU4.out.shrink hu5 (by simp)) rfl (NodesAt.leaf (by simp [lLab, Sp.blank]) (by simp [lLab]) (by have := HU4.out.size; omega) (by simpa [tnOf, kindP, wordP, lLab] using ht5)) (HF4.out.upd hu5 (by simp))
      | false =>
        have H2 : Hid (Sp.isAt s j 93 = false) := h2
        have HR : Hid (Sp.items s (s.size + 1) (fun _ => false) j0 = Sp.items s fuel (Sp.add set a bb) j) := by show _ = _; rw [HQ2.out]; unfold after; rw [h2]; rfl
        clear h2
        go_wp2_with fail
        refine (pTake_no r s ⟨j, x.e, x.a, x.d, x.t⟩ _ _ (by exact HF3.out) hj hs H2.out).mono ?_
        rintro e w4 ⟨rfl, hu4, hf4⟩
        have HU4 : Hid (Upd [r] w w4) := HU3.out.trans hu4
        have HF4 : Hid (PdAt w4 r s ⟨j, x.e, x.a, x.d, x.t⟩) := hf4
        have HS4 : Hid (SetAt w4 w1.heap.size (Sp.add set a bb)) := HS3.out.upd hu4 (by simpa using hrp.symm)
        clear hu4 hf4
        go_wp2_with fail
        go_roundg fuel
        case measure => omega
        case rel => exact ⟨HU4.out, _, j, HF4.out, HS4.out, HR.out, by omega, hj⟩
end Go.Proofs.YtadmlifmcdnhnaaDoor

set_option linter.unusedSimpArgs false
set_option linter.unusedVariables false
namespace Go.Proofs.YtadmlifmcdnhnaaDoor
open Go.RowKit

/-- What reading a group's head leaves. -/
def PHeadOut (r : Nat) (s : ByteArray) (x : RS) (w : World) (res : Sp.Res (Nat × Sp.At)) (k : Ending) (w' : World) : Prop :=
  Upd [r] w w' ∧ match res with
  | .ok (n, y) => k = .returned (.tuple #[.int .i64 n, .bool true]) ∧ PdAt w' r s { x with i := y.i, t := y.t }
  | .error (e, a) => ∃ v i' t', k = .returned (.tuple #[.int .i64 v, .bool false]) ∧ PdAt w' r s ⟨i', e, a, x.d, t'⟩
theorem PHeadOut.mk_ok {r : Nat} {s : ByteArray} {x : RS} {w w' : World} {res : Sp.Res (Nat × Sp.At)} {k : Ending} (n : Nat) (y : Sp.At) (h : res = .ok (n, y)) (u : Upd [r] w w') (hk : k = .returned (.tuple #[.int .i64 n, .bool true])) (hr : PdAt w' r s { x with i := y.i, t := y.t }) : PHeadOut r s x w res k w' := by
  subst h; exact ⟨u, hk, hr⟩
theorem PHeadOut.mk_error {r : Nat} {s : ByteArray} {x : RS} {w w' : World} {res : Sp.Res (Nat × Sp.At)} {k : Ending} (e a v : Int) (i' : Nat) (t' : Int) (h : res = .error (e, a)) (u : Upd [r] w w') (hk : k = .returned (.tuple #[.int .i64 v, .bool false])) (hr : PdAt w' r s ⟨i', e, a, x.d, t'⟩) : PHeadOut r s x w res k w' := by
  subst h; exact ⟨u, v, i', t', hk, hr⟩

theorem head_deep {s : ByteArray} {d : Nat} {x : Sp.At} (h : 8 ≤ d) : Sp.head s d x = .error (5, x.i) := by unfold Sp.head; rw [if_pos h]
theorem head_q {s : ByteArray} {d : Nat} {i : Nat} {t : Int} (h : ¬ 8 ≤ d) (h1 : Sp.isAt s (i + 1) 63 = true) : Sp.head s d ⟨i, t⟩ = if Sp.isAt s (i + 2) 58 then .ok (0, ⟨i + 2 + 1, t⟩) else .error (3, (i + 2 : Nat)) := by
  unfold Sp.head; rw [if_neg h, if_pos h1]; unfold Sp.need; cases Sp.isAt s (i + 2) 58 <;> rfl
theorem head_many {s : ByteArray} {d : Nat} {i : Nat} {t : Int} (h : ¬ 8 ≤ d) (h1 : Sp.isAt s (i + 1) 63 = false) (h2 : 9 ≤ t) : Sp.head s d ⟨i, t⟩ = .error (6, i) := by
  unfold Sp.head; rw [if_neg h, if_neg (by rw [h1]; simp), if_pos h2]
theorem head_told {s : ByteArray} {d : Nat} {i : Nat} {t : Int} (h : ¬ 8 ≤ d) (h1 : Sp.isAt s (i + 1) 63 = false) (h2 : ¬ 9 ≤ t) : Sp.head s d ⟨i, t⟩ = .ok ((t + 1).toNat, ⟨i + 1, t + 1⟩) := by
  unfold Sp.head; rw [if_neg h, if_neg (by rw [h1]; simp), if_neg h2]

set_option maxHeartbeats 800000 in
theorem pGroupHead_any (r : Nat) (s : ByteArray) (i0 : Nat) (e0 a0 : Int) (d : Nat) (t : Int) (w : World) (h : PdAt w r s ⟨i0, e0, a0, d, t⟩) (hi : i0 < s.size) (hs : s.size ≤ 200) (hd : d ≤ 8) (ht0 : 0 ≤ t) (ht9 : t ≤ 9) :
    Calls Tryd.prog 81 #[.pointer (some ⟨r, 0, none⟩)] w (PHeadOut r s ⟨i0, e0, a0, d, t⟩ w (Sp.head s d ⟨i0, t⟩)) := by
  obtain ⟨c0, c1, c2, c3, c4, c5, fz⟩ := h.facts
  have hh : Hid (PdAt w r s ⟨i0, e0, a0, d, t⟩) := h
  clear h
  by_cases hd8 : 8 ≤ d
  · have HR : Hid (Sp.head s d ⟨i0, t⟩ = .error (5, i0)) := head_deep hd8
    have hd8' : (8 : Int) ≤ d := by omega
    go_enter Tryd.func81, Tryd.ntmps81
    go_wp2_with fail
    refine (pRefuse_any r s ⟨i0, e0, a0, d, t⟩ _ _ _ (by exact hh.out)).mono ?_
    rintro e w1 ⟨rfl, hu, hf⟩
    go_wp2_with fail
    go_ret2
    exact PHeadOut.mk_error _ _ 0 i0 t HR.out hu rfl hf
  · have hd8' : ¬ (8 : Int) ≤ d := by omega
    have HF0 : Hid (PdAt (w.setCell ⟨r, 1, none⟩ (.int .i64 ((i0 + 1 : Nat) : Int))) r s ⟨i0 + 1, e0, a0, d, t⟩) := hh.out.set1 (i0 + 1)
    cases h1 : Sp.isAt s (i0 + 1) 63 with
    | true =>
      have H1 : Hid (Sp.isAt s (i0 + 1) 63 = true) := h1
      have hi2 := Sp.isAt_lt h1
      have HR : Hid (Sp.head s d ⟨i0, t⟩ = if Sp.isAt s (i0 + 2) 58 then .ok (0, ⟨i0 + 2 + 1, t⟩) else .error (3, (i0 + 2 : Nat))) := head_q hd8 h1
      clear h1
      go_enter Tryd.func81, Tryd.ntmps81
      go_wp2_with fail
      refine (pTake_yes r s ⟨i0 + 1, e0, a0, d, t⟩ _ _ (by exact HF0.out) hs H1.out).mono ?_
      rintro e w1 ⟨rfl, hu, hf⟩
      have HU1 : Hid (Upd [r] w w1) := (by refine Upd.trans ?_ hu; (repeat (first | exact Upd.refl _ _ | refine Upd.drewN ?_ | refine Upd.drew ?_ | refine Upd.setCell ?_ (by simp) _ | refine Upd.alloc ?_ _)) : Upd [r] w w1)
      have HF1 : Hid (PdAt w1 r s ⟨i0 + 2, e0, a0, d, t⟩) := hf
      clear hu hf
      go_wp2_with fail
      refine (pNeed_any r s ⟨i0 + 2, e0, a0, d, t⟩ _ _ (by exact HF1.out) (by exact hi2) hs).mono ?_
      rintro e w2 ⟨rfl, hu2, hf2⟩
      cases h2 : Sp.isAt s (i0 + 2) 58 with
      | true =>
        rw [show Sp.isAt s _ 58 = true from h2] at hf2
        have HR' : Hid (Sp.head s d ⟨i0, t⟩ = .ok (0, ⟨i0 + 2 + 1, t⟩)) := by show _ = _; rw [HR.out, h2]; rfl
        clear h2
        go_wp2_with fail
        go_ret2
        exact PHeadOut.mk_ok 0 _ HR'.out (HU1.out.trans hu2) rfl hf2
      | false =>
        rw [show Sp.isAt s _ 58 = false from h2] at hf2
        have HR' : Hid (Sp.head s d ⟨i0, t⟩ = .error (3, (i0 + 2 : Nat))) := by show _ = _; rw [HR.out, h2]; rfl
        clear h2
        go_wp2_with fail
        go_ret2
        exact PHeadOut.mk_error _ _ 0 (i0 + 2) t HR'.out (HU1.out.trans hu2) rfl hf2
    | false =>
      have H1 : Hid (Sp.isAt s (i0 + 1) 63 = false) := h1
      clear h1
      by_cases h9 : 9 ≤ t
      · have HR : Hid (Sp.head s d ⟨i0, t⟩ = .error (6, i0)) := head_many hd8 H1.out h9
        go_enter Tryd.func81, Tryd.ntmps81
        go_wp2_with fail
        refine (pTake_no r s ⟨i0 + 1, e0, a0, d, t⟩ _ _ (by exact HF0.out) (by exact hi) hs H1.out).mono ?_
        rintro e w1 ⟨rfl, hu, hf⟩
        have HU1 : Hid (Upd [r] w w1) := (by refine Upd.trans ?_ hu; (repeat (first | exact Upd.refl _ _ | refine Upd.drewN ?_ | refine Upd.drew ?_ | refine Upd.setCell ?_ (by simp) _ | refine Upd.alloc ?_ _)) : Upd [r] w w1)
        have HF1 : Hid (PdAt w1 r s ⟨i0 + 1, e0, a0, d, t⟩) := hf
        obtain ⟨d0, d1, d2, d3, d4, d5, dz⟩ := HF1.out.facts
        clear hu hf c0 c1 c2 c3 c4 c5 fz
        go_wp2_with fail
        refine (pRefuse_any r s ⟨i0 + 1, e0, a0, d, t⟩ _ _ _ (by exact HF1.out)).mono ?_
        rintro e w2 ⟨rfl, hu2, hf2⟩
        go_wp2_with fail
        go_ret2
        exact PHeadOut.mk_error _ _ 0 (i0 + 1) t HR.out (HU1.out.trans hu2) rfl hf2
      · have HR : Hid (Sp.head s d ⟨i0, t⟩ = .ok ((t + 1).toNat, ⟨i0 + 1, t + 1⟩)) := head_told hd8 H1.out h9
        go_enter Tryd.func81, Tryd.ntmps81
        go_wp2_with fail
        refine (pTake_no r s ⟨i0 + 1, e0, a0, d, t⟩ _ _ (by exact HF0.out) (by exact hi) hs H1.out).mono ?_
        rintro e w1 ⟨rfl, hu, hf⟩
        have HU1 : Hid (Upd [r] w w1) := (by refine Upd.trans ?_ hu; (repeat (first | exact Upd.refl _ _ | refine Upd.drewN ?_ | refine Upd.drew ?_ | refine Upd.setCell ?_ (by simp) _ | refine Upd.alloc ?_ _)) : Upd [r] w w1)
        have HF1 : Hid (PdAt w1 r s ⟨i0 + 1, e0, a0, d, t⟩) := hf
        obtain ⟨d0, d1, d2, d3, d4, d5, dz⟩ := HF1.out.facts
        clear hu hf c0 c1 c2 c3 c4 c5 fz
        go_wp2_with fail
        go_ret2
        exact PHeadOut.mk_ok _ _ HR.out (HU1.out.setCell (by simp) _) (tup2 (int_eq (by omega)) rfl) (HF1.out.set3 (t + 1))

/-- The program's choice, as its callers take it. -/
def PChoiceC (k : Nat) : Prop := ∀ (r : Nat) (s : ByteArray) (x : RS) (w : World), PdAt w r s x → s.size ≤ 200 → x.i ≤ s.size → x.d = 9 - (k : Int) → 0 ≤ x.t → x.t ≤ 9 →
  Calls Tryd.prog 25 #[.pointer (some ⟨r, 0, none⟩)] w (PNodeOut r s x w (Sp.choice s k ⟨x.i, x.t⟩))

theorem NodesAt.over {w : World} {S : Nat → Prop} {p c n : Nat} {t : Tr} {l : Value} {a : Lab} (ha : a = { Sp.blank with kind := 3, told := decide (n ≠ 0), num := n }) (h : TnAt w p { kind := 3, size := max (psz t) 1, parts := l, byte := 0, s0 := 0, s1 := 0, s2 := 0, s3 := 0, not := false, num := n, least := 0, most := 0 })
    (ho : w.ownsRow 0 34 1 l 1 [ptr c]) (hl : ∀ g, l.ownBlock = some g → S g) (hS : S p) (hc : NodesAt w S [c] [t]) : NodesAt w S [p] [⟨a, [t]⟩] := by
  subst ha
  rw [NodesAt_cons]
  refine ⟨⟨p, l, [c], Or.inl ⟨by simp [Sp.blank], rfl⟩, hS, ?_, ho, hl, hc⟩, NodesAt_nil _ _⟩
  rw [psz_group (t := bareOf _) (by simp [bareOf]) rfl]
  show TnAt w p (tnOf _ (max (pszs [t]) 1) l)
  rw [pszs_one]; exact h

theorem group_1 {sub : Sp.At → Sp.Res (Tr × Sp.At)} {s : ByteArray} {d : Nat} {x : Sp.At} {f : Sp.Fault} (h : Sp.head s d x = .error f) : Sp.group sub s d x = .error f := by unfold Sp.group; rw [h]
theorem group_2 {sub : Sp.At → Sp.Res (Tr × Sp.At)} {s : ByteArray} {d n : Nat} {x y : Sp.At} {f : Sp.Fault} (h : Sp.head s d x = .ok (n, y)) (h2 : sub y = .error f) : Sp.group sub s d x = .error f := by unfold Sp.group; rw [h]; simp only [h2]
theorem group_3 {sub : Sp.At → Sp.Res (Tr × Sp.At)} {s : ByteArray} {d n : Nat} {x y z : Sp.At} {t : Tr} (h : Sp.head s d x = .ok (n, y)) (h2 : sub y = .ok (t, z)) : Sp.group sub s d x = if Sp.isAt s z.i 41 then .ok (⟨{ Sp.blank with kind := 3, told := decide (n ≠ 0), num := n }, [t]⟩, ⟨z.i + 1, z.t⟩) else .error (3, z.i) := by
  unfold Sp.group; rw [h]; simp only [h2, Sp.need]; cases Sp.isAt s z.i 41 <;> rfl

set_option maxHeartbeats 1000000 in
theorem pGroup_any (r : Nat) (s : ByteArray) (i0 : Nat) (e0 a0 : Int) (d : Nat) (t : Int) (w : World) (h : PdAt w r s ⟨i0, e0, a0, d, t⟩) (hi : i0 < s.size) (hs : s.size ≤ 200) (hd : d ≤ 8) (ht0 : 0 ≤ t) (ht9 : t ≤ 9) (k : Nat) (hsub : d < 8 → PChoiceC k) (hk : (d : Int) = 8 - (k : Int)) :
    Calls Tryd.prog 72 #[.pointer (some ⟨r, 0, none⟩)] w (PNodeOut r s ⟨i0, e0, a0, d, t⟩ w (Sp.group (Sp.choice s k) s d ⟨i0, t⟩)) := by
  have hr := lt_of_heap h
  have hh : Hid (PdAt w r s ⟨i0, e0, a0, d, t⟩) := h
  have HK : Hid ((d : Int) = 8 - (k : Int)) := hk
  have HSUB : Hid (d < 8 → PChoiceC k) := hsub
  clear h hk hsub
  cases h1 : Sp.head s d ⟨i0, t⟩ with
  | error p =>
    obtain ⟨e1, a1⟩ := p
    have H1 : Hid (Sp.head s d ⟨i0, t⟩ = .error (e1, a1)) := h1
    clear h1
    go_enter Tryd.func72, Tryd.ntmps72
    go_wp2_with fail
    refine (pGroupHead_any r s i0 e0 a0 d t _ (by exact hh.out) hi hs hd ht0 ht9).mono ?_
    rw [H1.out]
    rintro e w1 ⟨hu, v, i', t', rfl, hf⟩
    go_wp2_with fail
    go_ret2
    exact PNodeOut.mk_error _ _ i' t' (group_1 H1.out) hu rfl hf
  | ok p =>
    obtain ⟨n, y⟩ := p
    have H1 : Hid (Sp.head s d ⟨i0, t⟩ = .ok (n, y)) := h1
    have hd8 : d < 8 := by
      rcases Nat.lt_or_ge d 8 with q | q
      · exact q
      · rw [head_deep q] at h1; cases h1
    obtain ⟨hy1, hy2, hy3, hy4⟩ := Sp.head_ok h1 (by exact hi) ht0 ht9
    clear h1
    go_enter Tryd.func72, Tryd.ntmps72
    go_wp2_with fail
    refine (pGroupHead_any r s i0 e0 a0 d t _ (by exact hh.out) hi hs hd ht0 ht9).mono ?_
    rw [H1.out]
    rintro e w1 ⟨hu, rfl, hf⟩
    have HU1 : Hid (Upd [r] w w1) := hu
    have HF1 : Hid (PdAt w1 r s ⟨y.i, e0, a0, d, y.t⟩) := hf
    obtain ⟨c0, c1, c2, c3, c4, c5, fz⟩ := HF1.out.facts
    clear hu hf
    have HF2 : Hid (PdAt (w1.setCell ⟨r, 2, none⟩ (.int .i64 ((d : Int) + 1))) r s ⟨y.i, e0, a0, (d : Int) + 1, y.t⟩) := HF1.out.set2 ((d : Int) + 1)
    go_wp2_with fail
    refine (HSUB.out hd8 r s ⟨y.i, e0, a0, (d : Int) + 1, y.t⟩ _ (by exact HF2.out) hs (by exact hy2) (by have := HK.out; show (d : Int) + 1 = _; omega) hy3 hy4).mono ?_
    rintro e w3 ⟨hu3, hq3⟩
    have HU3 : Hid (Upd [r] w w3) := (HU1.out.setCell (by simp) _).trans hu3
    have hw3 : w.heap.size ≤ w3.heap.size := HU3.out.size
    have HB3 : Hid (Upd [r] (w1.setCell ⟨r, 2, none⟩ (.int .i64 ((d : Int) + 1))) w3) := hu3
    clear hu3 c0 c1 c2 c3 c4 c5 fz
    revert hq3
    cases h2 : Sp.choice s k ⟨y.i, y.t⟩ with
    | error p =>
      obtain ⟨e1, a1⟩ := p
      rintro ⟨i', t', rfl, hf3⟩
      have HF3 : Hid (PdAt w3 r s ⟨i', e1, a1, (d : Int) + 1, t'⟩) := hf3
      have HR : Hid (Sp.group (Sp.choice s k) s d ⟨i0, t⟩ = .error (e1, a1)) := group_2 H1.out h2
      obtain ⟨c0, c1, c2, c3, c4, c5, fz⟩ := HF3.out.facts
      clear hf3 h2
      go_wp2_with fail
      go_ret2
      exact PNodeOut.mk_error _ _ i' t' HR.out (HU3.out.setCell (by simp) _) rfl (HF3.out.set2 d)
    | ok p =>
      obtain ⟨tr, z⟩ := p
      rintro ⟨c, rfl, hn3, hf3⟩
      have HF3 : Hid (PdAt w3 r s ⟨z.i, e0, a0, (d : Int) + 1, z.t⟩) := hf3
      have HN3 : Hid (NodesAt w3 (fun k => w.heap.size ≤ k) [c] [tr]) := NodesAt.mono _ _ hn3 (fun k hk _ => by have : w.heap.size ≤ w1.heap.size := HU1.out.size; simp at hk; omega)
      have HR : Hid (Sp.group (Sp.choice s k) s d ⟨i0, t⟩ = if Sp.isAt s z.i 41 then .ok (⟨{ Sp.blank with kind := 3, told := decide (n ≠ 0), num := n }, [tr]⟩, ⟨z.i + 1, z.t⟩) else .error (3, z.i)) := group_3 H1.out h2
      obtain ⟨hz1, hz2, hz3, hz4⟩ := Sp.choice_good s k _ _ _ h2 hy2 hy3 hy4
      obtain ⟨c0, c1, c2, c3, c4, c5, fz⟩ := HF3.out.facts
      clear hf3 h2 hn3
      have HF4 : Hid (PdAt (w3.setCell ⟨r, 2, none⟩ (.int .i64 d)) r s ⟨z.i, e0, a0, d, z.t⟩) := HF3.out.set2 d
      unfold ptr
      go_wp2_with fail
      refine (pNeed_any r s ⟨z.i, e0, a0, d, z.t⟩ _ _ (by exact HF4.out) (by exact hz2) hs).mono ?_
      rintro e w4 ⟨rfl, hu4, hf4⟩
      have HU4 : Hid (Upd [r] w w4) := (HU3.out.setCell (by simp) _).trans hu4
      have HV4 : Hid (Upd [r] w3 w4) := ((Upd.refl [r] w3).setCell (by simp) _).trans hu4
      clear hu4
      cases h3 : Sp.isAt s z.i 41 with
      | false =>
        rw [show Sp.isAt s _ 41 = false from h3] at hf4
        have HR' : Hid (Sp.group (Sp.choice s k) s d ⟨i0, t⟩ = .error (3, z.i)) := by show _ = _; rw [HR.out, h3]; rfl
        clear h3
        go_wp2_with fail
        go_ret2
        exact PNodeOut.mk_error _ _ z.i z.t HR'.out HU4.out rfl hf4
      | true =>
        rw [show Sp.isAt s _ 41 = true from h3] at hf4
        have HR' : Hid (Sp.group (Sp.choice s k) s d ⟨i0, t⟩ = .ok (⟨{ Sp.blank with kind := 3, told := decide (n ≠ 0), num := n }, [tr]⟩, ⟨z.i + 1, z.t⟩)) := by show _ = _; rw [HR.out, h3]; rfl
        have HF5 : Hid (PdAt w4 r s ⟨z.i + 1, e0, a0, d, z.t⟩) := hf4
        have HN4 : Hid (NodesAt w4 (fun k => w.heap.size ≤ k) [c] [tr]) := HN3.out.upd HV4.out (fun k hk => by simp at hk; omega)
        have hsz := nodePsz HN4.out
        clear h3 hf4
        go_wp2_with fail
        refine (tGroup_any _ c (psz tr) _ (by exact hsz) (psz_nn tr) (psz_le tr)).mono ?_
        rintro e w5 ⟨p, l, rfl, hp, hu5, ht5, ho5, hl5⟩
        have hsz4 := HU4.out.size
        go_wp2_with fail
        go_ret2
        exact PNodeOut.mk_ok _ _ p HR'.out (HU4.out.shrink hu5 (by simp)) rfl (NodesAt.over rfl ht5 ho5 (fun g hg => by have := hl5 g hg; omega) (by omega) (HN4.out.upd hu5 (by simp))) (HF5.out.upd hu5 (by simp))
end Go.Proofs.YtadmlifmcdnhnaaDoor
