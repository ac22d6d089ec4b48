import Derived.Test.YtadmlifmcdnhnaaDoorH31
set_option linter.unusedSimpArgs false
set_option linter.unusedVariables false
namespace Go.Proofs.YtadmlifmcdnhnaaDoor
open Go.RowKit

theorem pNext_is (r : Nat) (s : ByteArray) (x : RS) (b : Int) (v : Bool) (w : World) (h : PdAt w r s x) (hi : x.i ≤ s.size) (hv : Sp.isAt s x.i b = v) :
    Calls Tryd.prog 52 #[.pointer (some ⟨r, 0, none⟩), .int .u8 b] w fun e w' => e = .returned (.bool v) ∧ ∃ n, w' = w.drewN n :=
  (pNext_any r s x b w h hi).mono fun e w' q => ⟨by rw [q.1, hv], q.2⟩

theorem atom_1 {sub : Sp.At → Sp.Res (Tr × Sp.At)} {s : ByteArray} {d : Nat} {x : Sp.At} (h : Sp.isAt s x.i 40 = true) : Sp.atom sub s d x = Sp.group sub s d x := by unfold Sp.atom; rw [if_pos h]
theorem atom_2 {sub : Sp.At → Sp.Res (Tr × Sp.At)} {s : ByteArray} {d i : Nat} {t : Int} (h : Sp.isAt s i 40 = false) (h1 : Sp.isAt s i 91 = true) : Sp.atom sub s d ⟨i, t⟩ = match Sp.list s (i + 1) with | .error f => .error f | .ok (tr, j) => .ok (tr, ⟨j, t⟩) := by
  unfold Sp.atom; rw [if_neg (by rw [h]; simp), if_pos h1]; simp only; cases Sp.list s (i + 1) with
  | error f => rfl
  | ok p => rfl
theorem atom_3 {sub : Sp.At → Sp.Res (Tr × Sp.At)} {s : ByteArray} {d i : Nat} {t : Int} (h : Sp.isAt s i 40 = false) (h1 : Sp.isAt s i 91 = false) (h2 : Sp.isAt s i 46 = true) : Sp.atom sub s d ⟨i, t⟩ = .ok (⟨{ Sp.blank with kind := 1, set := fun c => c == 10, not := true }, []⟩, ⟨i + 1, t⟩) := by
  unfold Sp.atom; rw [if_neg (by rw [h]; simp), if_neg (by rw [h1]; simp), if_pos h2]
theorem atom_4 {sub : Sp.At → Sp.Res (Tr × Sp.At)} {s : ByteArray} {d i : Nat} {t : Int} (h : Sp.isAt s i 40 = false) (h1 : Sp.isAt s i 91 = false) (h2 : Sp.isAt s i 46 = false) : Sp.atom sub s d ⟨i, t⟩ = match Sp.byteBut false s i with | .error f => .error f | .ok (b, j) => .ok (⟨bLab b, []⟩, ⟨j, t⟩) := by
  unfold Sp.atom; rw [if_neg (by rw [h]; simp), if_neg (by rw [h1]; simp), if_neg (by rw [h2]; simp)]; rfl

set_option maxHeartbeats 1000000 in
theorem pAtom_any (r : Nat) (s : ByteArray) (i0 : Nat) (e0 a0 : Int) (d : Nat) (t : Int) (w : World) (h : PdAt w r s ⟨i0, e0, a0, d, t⟩) (hi : i0 ≤ s.size) (hs : s.size ≤ 200) (hd : d ≤ 8) (ht0 : 0 ≤ t) (ht9 : t ≤ 9) (k : Nat) (hsub : d < 8 → PChoiceC k) (hk : (d : Int) = 8 - (k : Int)) :
    Calls Tryd.prog 64 #[.pointer (some ⟨r, 0, none⟩)] w (PNodeOut r s ⟨i0, e0, a0, d, t⟩ w (Sp.atom (Sp.choice s k) s d ⟨i0, t⟩)) := by
  have hr := lt_of_heap h
  have hh : Hid (PdAt w r s ⟨i0, e0, a0, d, t⟩) := h
  have HK : Hid ((d : Int) = 8 - (k : Int)) := hk
  have HSUB : Hid (d < 8 → PChoiceC k) := hsub
  clear h hk hsub
  cases h1 : Sp.isAt s i0 40 with
  | true =>
    have H1 : Hid (Sp.isAt s i0 40 = true) := h1
    have hlt := Sp.isAt_lt h1
    have HR : Hid (Sp.atom (Sp.choice s k) s d ⟨i0, t⟩ = Sp.group (Sp.choice s k) s d ⟨i0, t⟩) := atom_1 (by exact h1)
    clear h1
    go_enter Tryd.func64, Tryd.ntmps64
    go_wp2_with fail
    refine (pNext_is r s ⟨i0, e0, a0, d, t⟩ _ true _ (by exact hh.out) hi H1.out).mono ?_
    rintro e w1 ⟨rfl, n1, rfl⟩
    go_wp2_with fail
    refine (pGroup_any r s i0 e0 a0 d t _ (by exact hh.out.drewN n1) hlt hs hd ht0 ht9 k HSUB.out HK.out).mono ?_
    rintro e w2 ⟨hu, hq⟩
    have HU : Hid (Upd [r] w w2) := ((drewN_upd _ _ _).trans hu : Upd [r] w w2)
    clear hu
    revert hq
    cases h2 : Sp.group (Sp.choice s k) s d ⟨i0, t⟩ with
    | ok p =>
      obtain ⟨tr, y⟩ := p
      rintro ⟨p, rfl, hn, hf⟩
      have HR' : Hid (Sp.atom (Sp.choice s k) s d ⟨i0, t⟩ = .ok (tr, y)) := HR.out.trans h2
      clear h2
      unfold ptr
      go_wp2_with fail
      go_ret2
      exact PNodeOut.mk_ok _ _ p HR'.out HU.out rfl hn hf
    | error p =>
      obtain ⟨e1, a1⟩ := p
      rintro ⟨i', t', rfl, hf⟩
      have HR' : Hid (Sp.atom (Sp.choice s k) s d ⟨i0, t⟩ = .error (e1, a1)) := HR.out.trans h2
      clear h2
      go_wp2_with fail
      go_ret2
      exact PNodeOut.mk_error _ _ i' t' HR'.out HU.out rfl hf
  | false =>
    have H1 : Hid (Sp.isAt s i0 40 = false) := h1
    clear h1
    cases h2 : Sp.isAt s i0 91 with
    | true =>
      have H2 : Hid (Sp.isAt s i0 91 = true) := h2
      have hlt := Sp.isAt_lt h2
      have HR : Hid (Sp.atom (Sp.choice s k) s d ⟨i0, t⟩ = listR s ⟨i0 + 1, e0, a0, d, t⟩) := atom_2 H1.out h2
      clear h2
      go_enter Tryd.func64, Tryd.ntmps64
      go_wp2_with fail
      refine (pNext_is r s ⟨i0, e0, a0, d, t⟩ _ false _ (by exact hh.out) hi H1.out).mono ?_
      rintro e w1 ⟨rfl, n1, rfl⟩
      go_wp2_with fail
      refine (pTake_yes r s ⟨i0, e0, a0, d, t⟩ _ _ (by exact hh.out.drewN n1) hs H2.out).mono ?_
      rintro e w2 ⟨rfl, hu2, hf2⟩
      have HU2 : Hid (Upd [r] w w2) := ((drewN_upd _ _ _).trans hu2 : Upd [r] w w2)
      have hsz2 := HU2.out.size
      clear hu2
      go_wp2_with fail
      refine (pList_any r s ⟨i0 + 1, e0, a0, d, t⟩ _ (by exact hf2) (by exact hlt) hs).mono ?_
      rintro e w3 ⟨hu3, hq⟩
      have HU3 : Hid (Upd [r] w w3) := HU2.out.trans hu3
      clear hu3 hf2
      revert hq
      cases h3 : listR s ⟨i0 + 1, e0, a0, d, t⟩ with
      | ok p =>
        obtain ⟨tr, y⟩ := p
        rintro ⟨p, rfl, hn, hf⟩
        have HR' : Hid (Sp.atom (Sp.choice s k) s d ⟨i0, t⟩ = .ok (tr, y)) := HR.out.trans h3
        clear h3
        unfold ptr
        go_wp2_with fail
        go_ret2
        exact PNodeOut.mk_ok _ _ p HR'.out HU3.out rfl (NodesAt.mono _ _ hn (fun k hk _ => by have hk' : w2.heap.size ≤ k := hk; omega)) hf
      | error p =>
        obtain ⟨e1, a1⟩ := p
        rintro ⟨i', t', rfl, hf⟩
        have HR' : Hid (Sp.atom (Sp.choice s k) s d ⟨i0, t⟩ = .error (e1, a1)) := HR.out.trans h3
        clear h3
        go_wp2_with fail
        go_ret2
        exact PNodeOut.mk_error _ _ i' t' HR'.out HU3.out rfl hf
    | false =>
      have H2 : Hid (Sp.isAt s i0 91 = false) := h2
      clear h2
      cases h3 : Sp.isAt s i0 46 with
      | true =>
        have H3 : Hid (Sp.isAt s i0 46 = true) := h3
        have HR : Hid (Sp.atom (Sp.choice s k) s d ⟨i0, t⟩ = .ok (⟨{ Sp.blank with kind := 1, set := fun c => c == 10, not := true }, []⟩, ⟨i0 + 1, t⟩)) := atom_3 H1.out H2.out h3
        clear h3
        go_enter Tryd.func64, Tryd.ntmps64
        go_wp2_with fail
        refine (pNext_is r s ⟨i0, e0, a0, d, t⟩ _ false _ (by exact hh.out) hi H1.out).mono ?_
        rintro e w1 ⟨rfl, n1, rfl⟩
        go_wp2_with fail
        refine (pTake_no r s ⟨i0, e0, a0, d, t⟩ _ _ (by exact hh.out.drewN n1) hi hs H2.out).mono ?_
        rintro e w2 ⟨rfl, hu2, hf2⟩
        have HU2 : Hid (Upd [r] w w2) := ((drewN_upd _ _ _).trans hu2 : Upd [r] w w2)
        clear hu2
        go_wp2_with fail
        refine (pTake_yes r s ⟨i0, e0, a0, d, t⟩ _ _ (by exact hf2) hs H3.out).mono ?_
        rintro e w3 ⟨rfl, hu3, hf3⟩
        have HU3 : Hid (Upd [r] w w3) := HU2.out.trans hu3
        have hsz3 := HU3.out.size
        have HF3 : Hid (PdAt w3 r s ⟨i0 + 1, e0, a0, d, t⟩) := hf3
        clear hu3 hf2 hf3
        go_wp2_with fail
        refine (tAny_any _).mono ?_
        rintro e w4 ⟨p, rfl, hp, hu4, ht4⟩
        go_wp2_with fail
        go_ret2
        exact PNodeOut.mk_ok _ _ p HR.out (HU3.out.shrink hu4 (by simp)) rfl (NodesAt.leaf (by simp [Sp.blank]) (by simp) (by omega) (by simpa [tnOf, kindP, wordP] using ht4)) (HF3.out.upd hu4 (by simp))
      | false =>
        have H3 : Hid (Sp.isAt s i0 46 = false) := h3
        have HR : Hid (Sp.atom (Sp.choice s k) s d ⟨i0, t⟩ = match Sp.byteBut false s i0 with | .error f => .error f | .ok (b, j) => .ok (⟨bLab b, []⟩, ⟨j, t⟩)) := atom_4 H1.out H2.out h3
        clear h3
        go_enter Tryd.func64, Tryd.ntmps64
        go_wp2_with fail
        refine (pNext_is r s ⟨i0, e0, a0, d, t⟩ _ false _ (by exact hh.out) hi H1.out).mono ?_
        rintro e w1 ⟨rfl, n1, rfl⟩
        go_wp2_with fail
        refine (pTake_no r s ⟨i0, e0, a0, d, t⟩ _ _ (by exact hh.out.drewN n1) hi hs H2.out).mono ?_
        rintro e w2 ⟨rfl, hu2, hf2⟩
        have HU2 : Hid (Upd [r] w w2) := ((drewN_upd _ _ _).trans hu2 : Upd [r] w w2)
        clear hu2
        go_wp2_with fail
        refine (pTake_no r s ⟨i0, e0, a0, d, t⟩ _ _ (by exact hf2) hi hs H3.out).mono ?_
        rintro e w3 ⟨rfl, hu3, hf3⟩
        have HU3 : Hid (Upd [r] w w3) := HU2.out.trans hu3
        have HF3 : Hid (PdAt w3 r s ⟨i0, e0, a0, d, t⟩) := hf3
        clear hu3 hf2 hf3
        go_wp2_with fail
        refine (pByteBut_any false r s ⟨i0, e0, a0, d, t⟩ _ (by exact HF3.out) hi hs).mono ?_
        rintro e w4 ⟨hu4, hq⟩
        have HU4 : Hid (Upd [r] w w4) := HU3.out.trans hu4
        have hsz4 := HU4.out.size
        clear hu4
        revert hq
        cases h4 : Sp.byteBut false s i0 with
        | ok p =>
          obtain ⟨b, j⟩ := p
          rintro ⟨rfl, hf⟩
          have HR' : Hid (Sp.atom (Sp.choice s k) s d ⟨i0, t⟩ = .ok (⟨bLab b, []⟩, ⟨j, t⟩)) := by show _ = _; rw [HR.out, h4]
          obtain ⟨hb0, hb1, _, _⟩ := byteBut_ok h4
          have HF4 : Hid (PdAt w4 r s ⟨j, e0, a0, d, t⟩) := hf
          clear h4 hf
          go_wp2_with fail
          refine (tByte_any b _).mono ?_
          rintro e w5 ⟨p, rfl, hp, hu5, ht5⟩
          go_wp2_with fail
          go_ret2
          exact PNodeOut.mk_ok _ _ p HR'.out (HU4.out.shrink hu5 (by simp)) rfl (NodesAt.leaf (by simp [bLab, Sp.blank]) (by simp [bLab]) (by omega) (by simpa [tnOf, kindP, wordP, bLab, show ((b.toNat : Nat) : Int) = b by omega, hb0] using ht5)) (HF4.out.upd hu5 (by simp))
        | error p =>
          obtain ⟨e1, a1⟩ := p
          rintro ⟨v, i', rfl, hf⟩
          have HR' : Hid (Sp.atom (Sp.choice s k) s d ⟨i0, t⟩ = .error (e1, a1)) := by show _ = _; rw [HR.out, h4]
          clear h4
          go_wp2_with fail
          go_ret2
          exact PNodeOut.mk_error _ _ i' t HR'.out HU4.out rfl hf
end Go.Proofs.YtadmlifmcdnhnaaDoor
