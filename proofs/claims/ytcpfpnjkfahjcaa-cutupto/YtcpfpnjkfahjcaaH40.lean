import Derived.Test.YtcpfpnjkfahjcaaH39
import Derived.Test.YtcpfpnjkfahjcaaH38
set_option linter.unusedSimpArgs false
set_option linter.unusedVariables false
namespace Go.Proofs.Ytcpfpnjkfahjcaa
open Go.RowKit

/-- A cutter that is so far. -/
def CuSt (w : World) (c p lim g h cap : Nat) (cu : Sp.Cu) : Prop := CuAt w c p lim cu.num cu.frm cu.len (.slice (some ⟨g, 0, none⟩) h cap) cu.held
/-- What a feed leaves. -/
structure FeedOut (w : World) (c p lim g0 : Nat) (t : Tr) (n : Nat) (cu0 : Sp.Cu) (K0 : List UInt8) (v : Value) (w' : World) : Prop where
  recs : RecsAt w' w.heap.size v (n + 1) (Sp.feedR (apartS t lim) lim cu0 K0)
  cut : ∃ g h cap, (g = g0 ∨ w.heap.size ≤ g) ∧ CuSt w' c p lim g h cap (Sp.feedC lim cu0 K0)
  upd : Upd [c, g0] w w'
/-- Behind some rounds of a feed. -/
structure FdInv (w : World) (c p lim g0 : Nat) (t : Tr) (n blk : Nat) (cu0 : Sp.Cu) (K0 : List UInt8) (gn : Nat) (vb vr : Value) (wr : World) : Prop where
  st : ∃ (cu : Sp.Cu) (K : List UInt8) (rs : List Sp.Rec) (off cp g h cap : Nat), vb = .slice (some ⟨blk, off, none⟩) K.length cp ∧ K.length ≤ cp ∧ K.length = gn ∧ BytesAt wr blk off K ∧ CuSt wr c p lim g h cap cu ∧ cu.fit lim ∧ RecsAt wr w.heap.size vr (n + 1) rs ∧ rs ++ Sp.feedR (apartS t lim) lim cu K = Sp.feedR (apartS t lim) lim cu0 K0 ∧ Sp.feedC lim cu K = Sp.feedC lim cu0 K0 ∧ (g = g0 ∨ w.heap.size ≤ g) ∧ Upd [c, g0] w wr ∧ cu.num + K.length ≤ 2200000 ∧ cu.frm + cu.len + K.length ≤ 2200000 ∧ rs.length + K.length ≤ 2200000 ∧ K.length ≤ 1050000
theorem BytesAt.keep {w w' : World} {b off : Nat} {K : List UInt8} {l : List Nat} (h : BytesAt w b off K) (u : Upd l w w') (hb : b < w.heap.size) (hl : b ∉ l) : BytesAt w' b off K := fun j x hx => (cell_eq (u.block b hb hl) _).trans (h j x hx)
theorem BytesAt.pre {w : World} {b off : Nat} {A M : List UInt8} (h : BytesAt w b off (A ++ M)) : BytesAt w b off A := fun j x hx => h j x (by
  have hj := (List.getElem?_eq_some_iff.mp hx).1
  rw [List.getElem?_append_left hj]; exact hx)
theorem BytesAt.post {w : World} {b off : Nat} {A M : List UInt8} (h : BytesAt w b off (A ++ M)) : BytesAt w b (off + A.length) M := fun j x hx => by
  have := h (A.length + j) x (by rw [List.getElem?_append_right (by omega)]; simpa using hx)
  rw [← Nat.add_assoc] at this
  exact this
theorem Upd.hide2 {a b c : World} {x y : Nat} (h : Upd [] a b) (k : Upd [x, y] b c) (hx : a.heap.size ≤ x) (hy : a.heap.size ≤ y) : Upd [] a c :=
  ⟨k.os.trans h.os, k.tape.trans h.tape, k.output.trans h.output, Nat.le_trans h.size k.size, fun q hq hn => (k.block q (Nat.lt_of_lt_of_le hq h.size) (by simp; omega)).trans (h.block q hq hn)⟩
theorem CuSt.len {w : World} {c p lim g h cap : Nat} {cu : Sp.Cu} (C : CuSt w c p lim g h cap cu) (hf : cu.fit lim) : h ≤ lim ∧ cu.held.length = h := by
  have := (CuAt.len C).1
  have h2 : cu.held.length = min cu.len lim := hf
  omega
theorem Upd.gs {w wr w2 : World} {c g g0 : Nat} (u : Upd [c, g0] w wr) (u2 : Upd [c, g] wr w2) (hg : g = g0 ∨ w.heap.size ≤ g) : Upd [c, g0] w w2 :=
  ⟨u2.os.trans u.os, u2.tape.trans u.tape, u2.output.trans u.output, Nat.le_trans u.size u2.size, fun q hq hn => (u2.block q (Nat.lt_of_lt_of_le hq u.size) (by simp at hn ⊢; omega)).trans (u.block q hq hn)⟩
theorem feedEnd {w wr w2 : World} {c p lim g0 n g h cap g2 h2 cap2 : Nat} {t : Tr} {cu0 cu : Sp.Cu} {K0 K : List UInt8} {rs : List Sp.Rec} {vr : Value} (C : CuSt wr c p lim g h cap cu) (R : RecsAt wr w.heap.size vr (n + 1) rs) (e1 : rs ++ Sp.feedR (apartS t lim) lim cu K = Sp.feedR (apartS t lim) lim cu0 K0) (e2 : Sp.feedC lim cu K = Sp.feedC lim cu0 K0) (hg : g = g0 ∨ w.heap.size ≤ g) (hu : Upd [c, g0] w wr) (hn : ∀ x ∈ K, x ≠ 10) (hg2 : g2 = g ∨ wr.heap.size ≤ g2) (C2 : CuAt w2 c p lim cu.num cu.frm (cu.len + K.length) (.slice (some ⟨g2, 0, none⟩) h2 cap2) (cu.held ++ K.take (lim - cu.held.length))) (u2 : Upd [c, g] wr w2) : FeedOut w c p lim g0 t n cu0 K0 vr w2 := by
  have a1 : Sp.feedR (apartS t lim) lim cu K = [] := by have := Sp.feedR_take (apartS t lim) lim K cu [] hn; rw [List.append_nil] at this; rw [this]; rfl
  have a2 : Sp.feedC lim cu K = Sp.takeC lim cu K := by have := Sp.feedC_take lim K cu [] hn; rw [List.append_nil] at this; rw [this]; rfl
  rw [a1, List.append_nil] at e1
  rw [a2] at e2
  have hsz := hu.size
  refine ⟨?_, ⟨g2, h2, cap2, by omega, ?_⟩, hu.gs u2 hg⟩
  · rw [← e1]
    refine R.keep u2 ?_ ?_
    · intro k hk; simp at hk; rcases hk with rfl | rfl
      · exact (CuAt.ty C).notSp (by decide)
      · exact (CuAt.tyg C).notSp (by decide)
    · intro k hk hm; simp at hm; rcases hm with rfl | rfl
      · exact TyIs.ne (R.ty hk) (CuAt.ty C) (by decide) rfl
      · exact TyIs.ne (R.ty hk) (CuAt.tyg C) (by decide) rfl
  · rw [← e2]; exact C2
/-- What is known behind the record's end. -/
theorem feedStep {w wr w2 w3 w5 : World} {c p lim g0 n g h cap g2 h2 cap2 blk off cp off' cp' m gm : Nat} {t : Tr} {cu0 cu : Sp.Cu} {K0 K A M : List UInt8} {rs : List Sp.Rec} {vr v' : Value} {a : Option Addr} {xs : List Value} {o : Obj} (hb : blk < w.heap.size) (hbc : blk ≠ c) (hbg : blk ≠ g0)
    (B : BytesAt wr blk off K) (C : CuSt wr c p lim g h cap cu) (hf : cu.fit lim) (e1 : rs ++ Sp.feedR (apartS t lim) lim cu K = Sp.feedR (apartS t lim) lim cu0 K0) (e2 : Sp.feedC lim cu K = Sp.feedC lim cu0 K0) (hg : g = g0 ∨ w.heap.size ≤ g) (hu : Upd [c, g0] w wr) (b1 : cu.num + K.length ≤ 2200000) (b2 : cu.frm + cu.len + K.length ≤ 2200000) (b3 : rs.length + K.length ≤ 2200000) (b4 : K.length ≤ 1050000) (hcp : K.length ≤ cp)
    (hK : K = A ++ 10 :: M) (hn : ∀ x ∈ A, x ≠ 10) (hM : M.length = gm) (hg2 : g2 = g ∨ wr.heap.size ≤ g2) (u2 : Upd [c, g] wr w2) (C3 : CuSt w3 c p lim g2 0 cap2 (Sp.nextC (Sp.takeC lim cu A))) (u3 : Upd [c] w2 w3) (hs : RecSp w3 a m (n + 1) (Sp.overR (apartS t lim) (Sp.takeC lim cu A)).sp)
    (own : w5.ownsRow w.heap.size 83 5 v' (rs.length + 1) (xs ++ recV (Sp.overR (apartS t lim) (Sp.takeC lim cu A)) a m)) (hown : (w3.alloc o).ownsRow w.heap.size 83 5 vr rs.length xs) (hx : RecsL w3 (n + 1) rs xs) (hgr : (w3.alloc o).grownBy w5 vr.ownBlock) (ho : off' = off + (A.length + 1) ∨ M.length = 0) (hcp2 : M.length ≤ cp') :
    FdInv w c p lim g0 t n blk cu0 K0 gm (.slice (some ⟨blk, off', none⟩) (K.length - (A.length + 1)) cp') v' w5 := by
  have hl : K.length = A.length + 1 + M.length := by rw [hK]; simp; omega
  have f1 : Sp.feedR (apartS t lim) lim cu K = Sp.overR (apartS t lim) (Sp.takeC lim cu A) :: Sp.feedR (apartS t lim) lim (Sp.nextC (Sp.takeC lim cu A)) M := by rw [hK, Sp.feedR_take _ _ _ _ _ hn, Sp.feedR_nl]
  have f2 : Sp.feedC lim cu K = Sp.feedC lim (Sp.nextC (Sp.takeC lim cu A)) M := by rw [hK, Sp.feedC_take _ _ _ _ hn, Sp.feedC_nl]
  have ua : Upd [c] w3 (w3.alloc o) := Upd.alloc (Upd.refl _ _) o
  have u3' : Upd [c] w2 (w3.alloc o) := u3.trans ua
  have ty : ∀ k, vr.ownBlock = some k → TyIs (w3.alloc o) k 83 := fun k hk => by
    rcases hown.2 with ⟨q, _⟩ | ⟨g', cap', cur, q, _, e3, _⟩
    · subst q; cases hk
    · subst q; simp [Value.ownBlock] at hk; subst hk; exact ⟨_, e3⟩
  have C4 : CuSt (w3.alloc o) c p lim g2 0 cap2 (Sp.nextC (Sp.takeC lim cu A)) := CuAt.blocks C3 (Below.heap_alloc _ _ _ (lt_of_heap C3.cell)) (fun k hk => Below.heap_alloc _ _ _ (ownBlock_lt C3.held hk).1)
  have ug := Upd.of_grown hgr
  have C5 : CuSt w5 c p lim g2 0 cap2 (Sp.nextC (Sp.takeC lim cu A)) := CuAt.blocks C4 (ug.block c (lt_of_heap C4.cell) (fun hm => TyIs.ne (ty c (by simpa using hm)) (CuAt.ty C4) (by decide) rfl)) (fun k hk => ug.block k (ownBlock_lt C4.held hk).1 (fun hm => by
    simp [Value.ownBlock] at hk
    subst hk
    exact TyIs.ne (ty g2 (by simpa using hm)) (CuAt.tyg C4) (by decide) rfl))
  have hsz := hu.size
  have U4 : Upd [c, g0] w (w3.alloc o) := (hu.gs u2 hg).trans (u3'.mono (by simp))
  have U5 : Upd [c, g0] w w5 := grown_ups (Nat.le_refl _) U4 hown hgr
  refine ⟨Sp.nextC (Sp.takeC lim cu A), M, rs ++ [Sp.overR (apartS t lim) (Sp.takeC lim cu A)], off', cp', g2, 0, cap2, ?_, hcp2, hM, ?_, C5, Sp.fit_next _ _, ⟨_, by rw [List.length_append]; exact own, ?_⟩, ?_, ?_, by omega, U5, ?_, ?_, ?_, by omega⟩
  · rw [hl]; congr 1; omega
  · have B' : BytesAt wr blk (off + (A.length + 1)) M := by
      have hB := B
      rw [hK, show A ++ 10 :: M = (A ++ [10]) ++ M by simp] at hB
      have := hB.post
      simpa using this
    have hblk : blk < wr.heap.size := by omega
    intro j x hj
    have hx := B' j x hj
    rcases ho with rfl | h0
    rotate_left
    · rw [List.eq_nil_of_length_eq_zero h0] at hj; simp at hj
    have q : w5.heap[blk]? = wr.heap[blk]? := (U5.block blk hb (by simp; exact ⟨hbc, hbg⟩)).trans (hu.block blk hb (by simp; exact ⟨hbc, hbg⟩)).symm
    exact (cell_eq q _).trans hx
  · refine ((hx.keep ua (fun k hk => ?_)).append (RecsL.one (hs.keep ua (fun k hk => ?_)))).keep ug (fun k hk => (ty k (by simpa using hk)).notSp (by decide))
    · simp at hk; subst hk; exact (CuAt.ty C3).notSp (by decide)
    · simp at hk; subst hk; exact (CuAt.ty C3).notSp (by decide)
  · rw [List.append_assoc, ← e1, f1]; rfl
  · rw [← e2, f2]
  · simp [Sp.nextC, Sp.takeC]; omega
  · simp [Sp.nextC, Sp.takeC]; omega
  · simp; omega
set_option maxRecDepth 8000 in
set_option maxHeartbeats 1600000 in
theorem cuFeed_any (w0 : World) (c p lim g0 h0 cap0 : Nat) (t : Tr) (n blk off0 cp0 : Nat) (cu0 : Sp.Cu) (K0 : List UInt8) (w : World) (hl : lim ≤ 100) (hK0 : K0.length ≤ 1050000) (hcp : K0.length ≤ cp0) (hnum : cu0.num ≤ 1050000) (hsum : cu0.frm + cu0.len ≤ 1050000) (hfit : cu0.fit lim) (B : BytesAt w blk off0 K0) (C : CuSt w c p lim g0 h0 cap0 cu0) (P : PatAt w0 p t n) (U0 : Upd [] w0 w) (hc0 : w0.heap.size ≤ c) (hg0 : w0.heap.size ≤ g0) (hb : blk < w.heap.size) (hbc : blk ≠ c) (hbg : blk ≠ g0) : Calls Try.prog 37 #[.pointer (some ⟨c, 0, none⟩), .slice (some ⟨blk, off0, none⟩) K0.length cp0] w fun e w' => ∃ v, e = .returned v ∧ FeedOut w c p lim g0 t n cu0 K0 v w' := by
  have HP : Hid (PatAt w0 p t n) := P
  have HU0 : Hid (Upd [] w0 w) := U0
  have START : Hid (FdInv w c p lim g0 t n blk cu0 K0 K0.length (.slice (some ⟨blk, off0, none⟩) K0.length cp0) (.slice none 0 0) w) := ⟨cu0, K0, [], off0, cp0, g0, h0, cap0, rfl, hcp, rfl, B, C, hfit, RecsAt.nil _ _ _, rfl, rfl, Or.inl rfl, Upd.refl _ _, by omega, by omega, by simp; omega, hK0⟩
  clear P U0 B C
  go_enter Try.func37, Try.ntmps37
  go_wp2_with fail
  go_loopg [1, 5] K0.length (fun gn vb vr wr => FdInv w c p lim g0 t n blk cu0 K0 gn vb vr wr)
  case atStart => exact START.out
  case round =>
    obtain ⟨cu, K, rs, off, cp, g, h, cap, hvb, hcp', hgn, hB, hC, hf, hR, hrs, hfc, hg, hu, hb1, hb2, hb3, hKb⟩ := hrel.st
    subst hvb
    have HB : Hid (BytesAt wr blk off K) := hB
    have HC : Hid (CuSt wr c p lim g h cap cu) := hC
    have HF : Hid (cu.fit lim) := hf
    have HR : Hid (RecsAt wr w.heap.size u5 (n + 1) rs) := hR
    have HE1 : Hid (rs ++ Sp.feedR (apartS t lim) lim cu K = Sp.feedR (apartS t lim) lim cu0 K0) := hrs
    have HE2 : Hid (Sp.feedC lim cu K = Sp.feedC lim cu0 K0) := hfc
    have HG : Hid (g = g0 ∨ w.heap.size ≤ g) := hg
    have HU : Hid (Upd [c, g0] w wr) := hu
    have hh := (hC.len hf).1
    have HL : Hid (cu.held.length = h) := (hC.len hf).2
    have HPR : Hid (PatAt wr p t n) := HP.out.upd (HU0.out.hide2 hu hc0 hg0)
    have HGN : Hid (K.length = gk) := hgn
    clear hB hC hf hR hrs hfc hg hu hgn
    go_wp2_with fail
    refine (indexNl_any blk off K.length cp K _ rfl HB.out).mono ?_
    rintro e w1 ⟨rfl, rfl⟩
    rcases atNl_spec K with ⟨q1, q2⟩ | ⟨A, M, q1, q2, q3⟩
    · have Q2 : Hid (∀ x ∈ K, x ≠ 10) := q2
      clear q2
      rw [q1]
      clear q1
      go_wp2_with fail
      refine (cuTake_any c p lim cu.num cu.frm cu.len g h cap cu.held blk off K.length cp K _ hl (by omega) (by omega) hh hcp' rfl HB.out HC.out).mono ?_
      rintro e w2 ⟨g2, cap2, rfl, hg2, c2, u2⟩
      have FE : Hid (FeedOut w c p lim g0 t n cu0 K0 u5 w2) := feedEnd HC.out HR.out HE1.out HE2.out HG.out HU.out Q2.out hg2 (by rw [HL.out]; exact c2) u2
      clear hg2 c2 u2
      go_wp2_with fail
      go_ret
      exact ⟨_, rfl, FE.out⟩
    · have HK : Hid (K = A ++ 10 :: M) := q1
      have Q2 : Hid (∀ x ∈ A, x ≠ 10) := q2
      obtain ⟨na, hna⟩ : ∃ na, A.length = na := ⟨_, rfl⟩
      have HNA : Hid (A.length = na) := hna
      have hlt : na + 1 + M.length = K.length := by rw [q1]; simp; omega
      rw [hna] at q3
      rw [q3]
      have h1 : ¬ (na : Int) < 0 := by omega
      have h2 : na ≤ K.length := by omega
      have h3 : na + 1 ≤ K.length := by omega
      clear q1 q2 q3 hna
      have HBA : Hid (BytesAt w1 blk off A) := by have := HB.out; rw [HK.out] at this; exact this.pre
      go_wp2_with fail
      refine (cuTake_any c p lim cu.num cu.frm cu.len g h cap cu.held blk off na cp A _ hl (by omega) (by omega) hh (by omega) HNA.out HBA.out HC.out).mono ?_
      rintro e w2 ⟨g2, cap2, rfl, hg2, c2, u2⟩
      have HG2 : Hid (g2 = g ∨ w1.heap.size ≤ g2) := hg2
      obtain ⟨cu2, hcu2⟩ : ∃ x, x = Sp.takeC lim cu A := ⟨_, rfl⟩
      have HCU : Hid (cu2 = Sp.takeC lim cu A) := hcu2
      have HC2 : Hid (CuSt w2 c p lim g2 (h + min (lim - h) na) cap2 cu2) := by show CuAt _ _ _ _ _ _ _ _ _; rw [hcu2]; simp only [Sp.takeC]; rw [HL.out, HNA.out]; exact c2
      have HF2 : Hid (cu2.fit lim) := by show Sp.Cu.fit lim cu2; rw [hcu2]; exact Sp.fit_take HF.out A
      have hL2 : cu2.held.length ≤ lim := by have : cu2.held.length = min cu2.len lim := HF2.out; omega
      have hn2 : cu2.num ≤ 3000000 := by rw [hcu2]; show cu.num ≤ _; omega
      have hf2 : cu2.frm ≤ 3000000 := by rw [hcu2]; show cu.frm ≤ _; omega
      have hl2 : cu2.len ≤ 3000000 := by rw [hcu2]; show cu.len + A.length ≤ _; rw [HNA.out]; omega
      have U2 : Hid (Upd [c, g] w1 w2) := u2
      have HP2 : Hid (PatAt w2 p t n) := HP.out.upd (HU0.out.hide2 (HU.out.gs u2 HG.out) hc0 hg0)
      have hR2 : RecsAt w2 w.heap.size u5 (n + 1) rs := by
        refine HR.out.keep u2 ?_ ?_
        · intro k hk; simp at hk; rcases hk with rfl | rfl
          · exact (CuAt.ty HC.out).notSp (by decide)
          · exact (CuAt.tyg HC.out).notSp (by decide)
        · intro k hk hm; simp at hm; rcases hm with rfl | rfl
          · exact TyIs.ne (HR.out.ty hk) (CuAt.ty HC.out) (by decide) rfl
          · exact TyIs.ne (HR.out.ty hk) (CuAt.tyg HC.out) (by decide) rfl
      have HR2 : Hid (RecsAt w2 w.heap.size u5 (n + 1) rs) := hR2
      clear hg2 c2 u2 hcu2 hR2
      go_wp2_with fail
      refine (cuOver_any c p lim cu2.num cu2.frm cu2.len g2 (h + min (lim - h) na) cap2 cu2.held t n _ hl hL2 hn2 hf2 hl2 HC2.out HP2.out).mono ?_
      rintro e w3 ⟨a, m, rfl, hs, hq, c3, u3⟩
      have HS : Hid (RecSp w3 a m (n + 1) (Sp.overR (apartS t lim) cu2).sp) := hs
      have HC3 : Hid (CuSt w3 c p lim g2 0 cap2 (Sp.nextC cu2)) := c3
      have U3 : Hid (Upd [c] w2 w3) := u3
      have hR3 : RecsAt w3 w.heap.size u5 (n + 1) rs := by
        refine HR2.out.keep u3 ?_ ?_
        · intro k hk; simp at hk; subst hk; exact (CuAt.ty HC2.out).notSp (by decide)
        · intro k hk hm; simp at hm; subst hm; exact TyIs.ne (HR2.out.ty hk) (CuAt.ty HC2.out) (by decide) rfl
      obtain ⟨xs, o1, l1⟩ := hR3.ex
      have HX : Hid (RecsL w3 (n + 1) rs xs) := l1
      obtain ⟨r5, hr5⟩ : ∃ r5, r5 = recV (Sp.overR (apartS t lim) cu2) a m := ⟨_, rfl⟩
      have HR5 : Hid (r5 = recV (Sp.overR (apartS t lim) cu2) a m) := hr5
      have hsz3 : w.heap.size ≤ w3.heap.size := Nat.le_trans HU.out.size (Nat.le_trans U2.out.size u3.size)
      have HA : Hid ((w3.alloc (.cells #[.int .i64 cu2.num, .int .i64 cu2.frm, .int .i64 cu2.len, .int .i64 (apartS t lim cu2.frm cu2.len cu2.held).1, .slice a m m] 83)).ownsRow w.heap.size 83 5 u5 rs.length xs) := ownsRow_same o1 (fun k hk hlt => Below.heap_alloc _ _ _ hlt)
      obtain ⟨it, hi1, hi2, hi3, hi4⟩ := pInfoRec
      have HI : Hid (Try.prog.info? 83 = some it ∧ it.zero = some (.agg #[.int .i64 0, .int .i64 0, .int .i64 0, .int .i64 0, .slice none 0 0]) ∧ it.size = 5 ∧ it.bytes = 56) := ⟨hi1, hi2, hi3, hi4⟩
      clear hs hq c3 u3 hR3 o1 l1 hr5 hi1 hi2 hi3 hi4
      obtain ⟨gm, hgm⟩ : ∃ k, M.length = k := ⟨_, rfl⟩
      have HGM : Hid (M.length = gm) := hgm
      go_wp2_with (first | (at_builtin; refine wpList_append_own_at _ rfl _ _ 54 rfl w.heap.size 83 it (.agg #[.int .i64 0, .int .i64 0, .int .i64 0, .int .i64 0, .slice none 0 0]) 5 56 Try.underlying54 HI.out.1 HI.out.2.1 HI.out.2.2.1 HI.out.2.2.2 rfl (by decide) _ _ _ rfl HA.out ⟨w3.heap.size, 0, none⟩ 1 1 [.int .i64 cu2.num, .int .i64 cu2.frm, .int .i64 cu2.len, .int .i64 (apartS t lim cu2.frm cu2.len cu2.held).1, .slice a m m] rfl rfl ?c1 ?c2 ?c3 ?c4 ?c5 ?_) | fail)
      case c1 => exact cells_five _ _ _ _ _ _
      case c2 => intro u hu; simp at hu; rcases hu with rfl | rfl | rfl | rfl | rfl <;> rfl
      case c3 => unfold maxLen; omega
      case c4 => omega
      case c5 => simp; omega
      intro v' w5 hown' hgrow hnil hloc
      have RL : ∀ off' cp', (off' = off + (A.length + 1) ∨ M.length = 0) → M.length ≤ cp' → FdInv w c p lim g0 t n blk cu0 K0 gm (.slice (some ⟨blk, off', none⟩) (K.length - (na + 1)) cp') v' w5 := fun off' cp' ho hc => by
        have := feedStep (g2 := g2) (h2 := h + min (lim - h) na) (cap2 := cap2) (m := m) (a := a) (v' := v') (xs := xs) (w5 := w5) hb hbc hbg HB.out HC.out HF.out HE1.out HE2.out HG.out HU.out hb1 hb2 hb3 hKb hcp' HK.out Q2.out HGM.out HG2.out U2.out (by rw [← HCU.out]; exact HC3.out) U3.out (by rw [← HCU.out]; exact HS.out) (by rw [← HCU.out]; exact hown') HA.out HX.out hgrow ho hc
        rw [HNA.out] at this
        exact this
      have RL1 : Hid (FdInv w c p lim g0 t n blk cu0 K0 gm (.slice (some ⟨blk, off + (na + 1), none⟩) (K.length - (na + 1)) (cp - (na + 1))) v' w5) := RL _ _ (Or.inl (by rw [HNA.out])) (by omega)
      have RL2 : Hid (cp ≤ na + 1 → FdInv w c p lim g0 t n blk cu0 K0 gm (.slice (some ⟨blk, off, none⟩) (K.length - (na + 1)) 0) v' w5) := fun hz => RL _ _ (Or.inr (by omega)) (by omega)
      clear hown' hgrow hnil hloc RL
      go_wp2_with fail
      all_goals go_roundg gm
      all_goals first
        | (have := HGN.out; omega)
        | exact RL1.out
        | exact RL2.out (by omega)
end Go.Proofs.Ytcpfpnjkfahjcaa

set_option linter.unusedSimpArgs false
set_option linter.unusedVariables false
namespace Go.Proofs.Ytcpfpnjkfahjcaa
open Go.RowKit

/-- What the end of a stream leaves. -/
structure CloseOut (w : World) (l : List Nat) (t : Tr) (n lim : Nat) (cu : Sp.Cu) (v : Value) (w' : World) : Prop where
  recs : RecsAt w' w.heap.size v (n + 1) (Sp.closeR (apartS t lim) cu)
  upd : Upd l w w'
theorem closeEnd {w w3 : World} {c n m : Nat} {ap : Sp.Ap} {cu : Sp.Cu} {a : Option Addr} (hr : Sp.closeR ap cu = [Sp.overR ap cu]) (hs : RecSp w3 a m (n + 1) (Sp.overR ap cu).sp) (u : Upd [c] w w3) :
    RecsAt (w3.alloc (.cells #[.int .i64 cu.num, .int .i64 cu.frm, .int .i64 cu.len, .int .i64 (ap cu.frm cu.len cu.held).1, .slice a m m] 83)) w.heap.size (.slice (some ⟨w3.heap.size, 0, none⟩) 1 1) (n + 1) (Sp.closeR ap cu) := by
  rw [hr]
  refine ⟨recV (Sp.overR ap cu) a m, ⟨rfl, Or.inr ⟨w3.heap.size, 1, _, rfl, u.size, heap_new rfl, Nat.le_refl _, by unfold maxLen; omega, rfl, rfl⟩⟩, RecsL.one (hs.keep (l := []) (by (repeat (first | exact Upd.refl _ _ | refine Upd.drewN ?_ | refine Upd.drew ?_ | refine Upd.setCell ?_ (by simp) _ | refine Upd.alloc ?_ _))) (by simp))⟩
theorem FeedOut.pre {w w1 w2 : World} {c p lim g0 n : Nat} {t : Tr} {cu0 : Sp.Cu} {K0 : List UInt8} {v : Value} (h : FeedOut w1 c p lim g0 t n cu0 K0 v w2) (u : Upd [] w w1) : FeedOut w c p lim g0 t n cu0 K0 v w2 := by
  have := u.size
  obtain ⟨g, hh, cap, e1, e2⟩ := h.cut
  exact ⟨h.recs.mono u.size, ⟨g, hh, cap, by omega, e2⟩, (u.mono (by simp)).trans h.upd⟩
theorem CloseOut.shut {w w1 w2 : World} {s c n lim : Nat} {t : Tr} {cu : Sp.Cu} {v u0 : Value} (h : CloseOut w1 [c] t n lim cu v w2) (S : StAt w2 s c) (u : Upd [] w w1) : CloseOut w [c, s] t n lim cu v (w2.setCell ⟨s, 0, none⟩ u0) := by
  have us : Upd [s] w2 (w2.setCell ⟨s, 0, none⟩ u0) := Upd.setCell (Upd.refl _ _) (by simp) _
  have ts : TyIs w2 s 77 := ⟨_, S⟩
  refine ⟨((h.recs.mono u.size).keep us ?_ ?_), ((u.mono (by simp)).trans (h.upd.mono (by simp))).trans (us.mono (by simp))⟩
  · intro k hk; simp at hk; subst hk; exact ts.notSp (by decide)
  · intro k hk hm; simp at hm; subst hm; exact TyIs.ne (h.recs.ty hk) ts (by decide) rfl
set_option maxRecDepth 8000 in
set_option maxHeartbeats 1600000 in
theorem cuClose_no (c p lim g h cap : Nat) (t : Tr) (n : Nat) (cu : Sp.Cu) (w : World) (C : CuSt w c p lim g h cap cu) (h0 : cu.len = 0) : Calls Try.prog 38 #[.pointer (some ⟨c, 0, none⟩)] w fun e w' => ∃ v, e = .returned v ∧ CloseOut w [c] t n lim cu v w' := by
  have c4 : w.cell? ⟨c, 4, none⟩ = some (.int .i64 0) := by rw [World.cell?, C.cell, h0]; rfl
  clear C
  have hr : Hid (Sp.closeR (apartS t lim) cu = []) := by show _ = _; unfold Sp.closeR; rw [if_pos h0]
  go_enter Try.func38, Try.ntmps38
  go_wp2_with fail
  go_ret
  refine ⟨_, rfl, ?_, by (repeat (first | exact Upd.refl _ _ | refine Upd.drewN ?_ | refine Upd.drew ?_ | refine Upd.setCell ?_ (by simp) _ | refine Upd.alloc ?_ _))⟩
  rw [hr.out]; exact RecsAt.nil _ _ _
set_option maxRecDepth 8000 in
set_option maxHeartbeats 1600000 in
theorem cuClose_yes (c p lim g h cap : Nat) (t : Tr) (n : Nat) (cu : Sp.Cu) (w : World) (hl : lim ≤ 100) (hnum : cu.num ≤ 2200000) (hsum : cu.frm + cu.len ≤ 2200000) (hfit : cu.fit lim) (C : CuSt w c p lim g h cap cu) (P : PatAt w p t n) (h0 : cu.len ≠ 0) : Calls Try.prog 38 #[.pointer (some ⟨c, 0, none⟩)] w fun e w' => ∃ v, e = .returned v ∧ CloseOut w [c] t n lim cu v w' := by
  have c4 : w.cell? ⟨c, 4, none⟩ = some (.int .i64 cu.len) := by rw [World.cell?, C.cell]; rfl
  have HC : Hid (CuSt w c p lim g h cap cu) := C
  have HP : Hid (PatAt w p t n) := P
  have hr : Hid (Sp.closeR (apartS t lim) cu = [Sp.overR (apartS t lim) cu]) := by show _ = _; unfold Sp.closeR; rw [if_neg h0]
  have hne : ¬ (cu.len : Int) = 0 := by omega
  clear C P
  go_enter Try.func38, Try.ntmps38
  go_wp2_with fail
  have hL : cu.held.length ≤ lim := by have : cu.held.length = min cu.len lim := hfit; omega
  refine (cuOver_any c p lim cu.num cu.frm cu.len g h cap cu.held t n _ hl hL (by omega) (by omega) (by omega) HC.out HP.out).mono ?_
  rintro e w3 ⟨a, m, rfl, hs, hq, c3, u3⟩
  have HS : Hid (RecSp w3 a m (n + 1) (Sp.overR (apartS t lim) cu).sp) := hs
  have U3 : Hid (Upd [c] w w3) := u3
  clear hs hq c3 u3
  go_wp2_with fail
  go_ret
  refine ⟨_, rfl, closeEnd hr.out HS.out U3.out, U3.out.trans (by (repeat (first | exact Upd.refl _ _ | refine Upd.drewN ?_ | refine Upd.drew ?_ | refine Upd.setCell ?_ (by simp) _ | refine Upd.alloc ?_ _)))⟩
theorem cuClose_any (c p lim g h cap : Nat) (t : Tr) (n : Nat) (cu : Sp.Cu) (w : World) (hl : lim ≤ 100) (hnum : cu.num ≤ 2200000) (hsum : cu.frm + cu.len ≤ 2200000) (hfit : cu.fit lim) (C : CuSt w c p lim g h cap cu) (P : PatAt w p t n) : Calls Try.prog 38 #[.pointer (some ⟨c, 0, none⟩)] w fun e w' => ∃ v, e = .returned v ∧ CloseOut w [c] t n lim cu v w' := by
  by_cases h0 : cu.len = 0
  · exact cuClose_no c p lim g h cap t n cu w C h0
  · exact cuClose_yes c p lim g h cap t n cu w hl hnum hsum hfit C P h0
set_option maxRecDepth 8000 in
set_option maxHeartbeats 1600000 in
theorem stFeed_any (w0 : World) (s c p lim g0 h0 cap0 : Nat) (t : Tr) (n blk off0 cp0 : Nat) (cu0 : Sp.Cu) (K0 : List UInt8) (w : World) (hl : lim ≤ 100) (hK0 : K0.length ≤ 1050000) (hcp : K0.length ≤ cp0) (hnum : cu0.num ≤ 1050000) (hsum : cu0.frm + cu0.len ≤ 1050000) (hfit : cu0.fit lim) (B : BytesAt w blk off0 K0) (S : StAt w s c) (C : CuSt w c p lim g0 h0 cap0 cu0) (P : PatAt w0 p t n) (U0 : Upd [] w0 w) (hc0 : w0.heap.size ≤ c) (hg0 : w0.heap.size ≤ g0) (hb : blk < w.heap.size) (hbc : blk ≠ c) (hbg : blk ≠ g0) : Calls Try.prog 25 #[.pointer (some ⟨s, 0, none⟩), .slice (some ⟨blk, off0, none⟩) K0.length cp0] w fun e w' => ∃ v, e = .returned (.tuple #[v, .int .i64 0]) ∧ FeedOut w c p lim g0 t n cu0 K0 v w' := by
  have HS : Hid (StAt w s c) := S
  have HB : Hid (BytesAt w blk off0 K0) := B
  have HC : Hid (CuSt w c p lim g0 h0 cap0 cu0) := C
  have HP : Hid (PatAt w0 p t n) := P
  have HU0 : Hid (Upd [] w0 w) := U0
  obtain ⟨m, hm⟩ : ∃ m, K0.length = m := ⟨_, rfl⟩
  clear S B C P U0
  go_enter Try.func25, Try.ntmps25
  go_wp2_with fail
  refine (stRef_any s c w HS.out).mono ?_
  rintro e w1 ⟨rfl, u1⟩
  have U1 : Hid (Upd [] w w1) := u1
  have s0 : w1.cell? ⟨s, 0, none⟩ = some (.pointer (some ⟨c, 0, none⟩)) := by
    have h := (u1.block s (lt_of_heap HS.out) (by simp)).trans HS.out
    rw [World.cell?, h]; rfl
  have HC1 : Hid (CuSt w1 c p lim g0 h0 cap0 cu0) := CuAt.blocks HC.out (u1.block c (lt_of_heap HC.out.cell) (by simp)) (fun k hk => u1.block k (ownBlock_lt HC.out.held hk).1 (by simp))
  have HB1 : Hid (BytesAt w1 blk off0 K0) := HB.out.keep u1 hb (by simp)
  have hb1 : blk < w1.heap.size := Nat.lt_of_lt_of_le hb u1.size
  clear u1
  go_wp2_with fail
  subst hm
  refine (cuFeed_any w0 c p lim g0 h0 cap0 t n blk off0 cp0 cu0 K0 _ hl hK0 hcp hnum hsum hfit HB1.out HC1.out HP.out (HU0.out.trans U1.out) hc0 hg0 hb1 hbc hbg).mono ?_
  rintro e w2 ⟨v, rfl, F⟩
  have HF : Hid (FeedOut w1 c p lim g0 t n cu0 K0 v w2) := F
  clear F
  go_wp2_with fail
  go_ret2
  exact ⟨v, rfl, HF.out.pre U1.out⟩
set_option maxRecDepth 8000 in
set_option maxHeartbeats 1600000 in
theorem stClose_any (s c p lim g h cap : Nat) (t : Tr) (n : Nat) (cu : Sp.Cu) (w : World) (hl : lim ≤ 100) (hnum : cu.num ≤ 2200000) (hsum : cu.frm + cu.len ≤ 2200000) (hfit : cu.fit lim) (S : StAt w s c) (C : CuSt w c p lim g h cap cu) (P : PatAt w p t n) : Calls Try.prog 26 #[.pointer (some ⟨s, 0, none⟩)] w fun e w' => ∃ v, e = .returned (.tuple #[v, .int .i64 0]) ∧ CloseOut w [c, s] t n lim cu v w' := by
  have HS : Hid (StAt w s c) := S
  have HC : Hid (CuSt w c p lim g h cap cu) := C
  have HP : Hid (PatAt w p t n) := P
  clear S C P
  go_enter Try.func26, Try.ntmps26
  go_wp2_with fail
  refine (stRef_any s c w HS.out).mono ?_
  rintro e w1 ⟨rfl, u1⟩
  have U1 : Hid (Upd [] w w1) := u1
  have hS1 : StAt w1 s c := (u1.block s (lt_of_heap HS.out) (by simp)).trans HS.out
  have HS1 : Hid (StAt w1 s c) := hS1
  have s0 : w1.cell? ⟨s, 0, none⟩ = some (.pointer (some ⟨c, 0, none⟩)) := by rw [World.cell?, hS1]; rfl
  have HC1 : Hid (CuSt w1 c p lim g h cap cu) := CuAt.blocks HC.out (u1.block c (lt_of_heap HC.out.cell) (by simp)) (fun k hk => u1.block k (ownBlock_lt HC.out.held hk).1 (by simp))
  have HP1 : Hid (PatAt w1 p t n) := HP.out.upd u1
  clear u1 hS1
  go_wp2_with fail
  refine (cuClose_any c p lim g h cap t n cu _ hl hnum hsum hfit HC1.out HP1.out).mono ?_
  rintro e w2 ⟨v, rfl, F⟩
  have HF : Hid (CloseOut w1 [c] t n lim cu v w2) := F
  have hS2 : StAt w2 s c := (F.upd.block s (lt_of_heap HS1.out) (fun hm => by
    have e1 : s = c := by simpa using hm
    exact TyIs.ne (⟨_, HS1.out⟩ : TyIs w1 s 77) (CuAt.ty HC1.out) (by decide) e1)).trans HS1.out
  have HS2 : Hid (StAt w2 s c) := hS2
  have fz : w2.frozen? ⟨s, 0, none⟩ = false := by rw [World.frozen?, hS2]; rfl
  have s2 : w2.cell? ⟨s, 0, none⟩ = some (.pointer (some ⟨c, 0, none⟩)) := by rw [World.cell?, hS2]; rfl
  clear F hS2
  go_wp2_with fail
  go_ret2
  exact ⟨v, rfl, HF.out.shut HS2.out U1.out⟩
set_option maxRecDepth 8000 in
set_option maxHeartbeats 1600000 in
theorem stHeld_any (s c p lim g h cap : Nat) (cu : Sp.Cu) (w : World) (S : StAt w s c) (C : CuSt w c p lim g h cap cu) : Calls Try.prog 27 #[.pointer (some ⟨s, 0, none⟩)] w fun e w' => e = .returned (.tuple #[.int .i64 cu.held.length, .int .i64 0]) ∧ Upd [] w w' := by
  have HS : Hid (StAt w s c) := S
  have HC : Hid (CuSt w c p lim g h cap cu) := C
  have hh : Hid (cu.held.length = h) := (CuAt.len C).1
  have s0 : w.cell? ⟨s, 0, none⟩ = some (.pointer (some ⟨c, 0, none⟩)) := by unfold StAt at S; rw [World.cell?, S]; rfl
  clear S C
  go_enter Try.func27, Try.ntmps27
  go_wp2_with fail
  refine (cuHeld_any c p lim cu.num cu.frm cu.len g h cap cu.held _ HC.out).mono ?_
  rintro e w2 ⟨rfl, u2⟩
  have U2 : Hid (Upd [] w w2) := u2
  clear u2
  go_wp2_with fail
  go_ret2
  exact ⟨by rw [hh.out]; rfl, U2.out⟩
end Go.Proofs.Ytcpfpnjkfahjcaa
