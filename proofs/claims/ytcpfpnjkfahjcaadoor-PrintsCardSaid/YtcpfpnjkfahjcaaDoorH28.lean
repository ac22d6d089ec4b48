import Derived.Test.YtcpfpnjkfahjcaaDoorH27
import Derived.Test.YtcpfpnjkfahjcaaDoorH02
set_option linter.unusedSimpArgs false
set_option linter.unusedVariables false
namespace Go.Proofs.YtcpfpnjkfahjcaaDoor
open Go.RowKit

/-- The kids of a node that grows, in blocks behind it. -/
structure Kids (w : World) (p : Nat) (l : Value) (qs : List Nat) (ts : List Tr) : Prop where
  own : w.ownsRow (p + 1) 40 1 l qs.length (qs.map ptr)
  parts : PartsAt w (fun k => p < k ∧ l.ownBlock ≠ some k) qs ts

theorem Kids.empty (w : World) (p : Nat) : Kids w p (.slice none 0 0) [] [] := ⟨⟨by simp, Or.inl ⟨rfl, rfl⟩⟩, PartsAt_nil _ _⟩

theorem Kids.same {w w' : World} {p : Nat} {l : Value} {qs : List Nat} {ts : List Tr} (h : Kids w p l qs ts) (hb : ∀ k, p < k → k < w.heap.size → w'.heap[k]? = w.heap[k]?) : Kids w' p l qs ts :=
  ⟨ownsRow_same h.own (fun g hg hl => hb g (by have := (ownBlock_lt h.own hg).2; omega) hl), PartsAt.same _ _ _ h.parts (fun k hk hl => hb k hk.1 hl)⟩

theorem Kids.upd {w w' : World} {p : Nat} {l : Value} {qs : List Nat} {ts : List Tr} (h : Kids w p l qs ts) {r : Nat} (u : Upd [r] w w') (hr : r ≤ p) : Kids w' p l qs ts :=
  h.same (fun k hk hl => u.block k hl (by simp; omega))

theorem own_le {w3 w5 : World} {p : Nat} {l : Value} {n : Nat} {xs : List Value} {o : Obj} (hg : (w3.alloc o).grownBy w5 l.ownBlock) {wr : World} (hown : wr.ownsRow (p + 1) 40 1 l n xs) (k : Nat) (hk : k ≤ p) (hl : k < w3.heap.size) : w5.heap[k]? = w3.heap[k]? := by
  rw [hg.block k (by simp; omega) (fun e => by have := (ownBlock_lt hown e.symm).2; omega)]
  exact Below.heap_alloc _ _ _ hl

theorem Kids.step {wr w3 w5 : World} {p q : Nat} {l v' : Value} {qs : List Nat} {ts : List Tr} {t' : Tr} {o : Obj} (hk : Kids wr p l qs ts) (hq : PartsAt w3 (fun k => wr.heap.size ≤ k) [q] [t']) (hp : p < wr.heap.size)
    (hu : ∀ k, p < k → k < wr.heap.size → w3.heap[k]? = wr.heap[k]?) (hsz : wr.heap.size ≤ w3.heap.size) (hown : w5.ownsRow (p + 1) 40 1 v' (qs.length + 1) (qs.map ptr ++ [ptr q]))
    (hg : (w3.alloc o).grownBy w5 l.ownBlock) (hloc : v'.ownBlock = l.ownBlock ∨ v'.ownBlock = some (w3.heap.size + 1)) : Kids (w5.setCell ⟨p, 1, none⟩ v') p v' (qs ++ [q]) (ts ++ [t']) := by
  have hs4 : (w3.alloc o).heap.size = w3.heap.size + 1 := by simp
  have hl : ∀ g, l.ownBlock = some g → g < wr.heap.size := fun g hg => (ownBlock_lt hk.own hg).1
  have hv : ∀ g, v'.ownBlock = some g → p < g := fun g hg => by have := (ownBlock_lt hown hg).2; omega
  have b5 : ∀ k, k < w3.heap.size → l.ownBlock ≠ some k → w5.heap[k]? = w3.heap[k]? := fun k hk hn => by
    rw [hg.block k (by omega) (fun e => hn e.symm)]; exact Below.heap_alloc _ _ _ hk
  have b6 : ∀ k, k ≠ p → (w5.setCell ⟨p, 1, none⟩ v').heap[k]? = w5.heap[k]? := fun k hk => Below.heap_setCell _ _ _ _ hk
  refine ⟨ownsRow_same (by simpa using hown) (fun g hg _ => b6 g (by have := hv g hg; omega)), ?_⟩
  refine PartsAt.append _ _ _ _ ?_ ?_
  · have h1 : PartsAt wr (fun k => (p < k ∧ l.ownBlock ≠ some k) ∧ v'.ownBlock ≠ some k) qs ts := PartsAt.mono _ _ _ _ hk.parts (fun k hk hl' => ⟨hk, fun e => by
      rcases hloc with q | q
      · exact hk.2 (q ▸ e)
      · rw [q] at e; simp at e; omega⟩)
    have h2 : PartsAt (w5.setCell ⟨p, 1, none⟩ v') (fun k => (p < k ∧ l.ownBlock ≠ some k) ∧ v'.ownBlock ≠ some k) qs ts := PartsAt.same _ _ _ h1 (fun k hk hl' => by
      rw [b6 k (by omega), b5 k (by omega) hk.1.2, hu k hk.1.1 hl'])
    exact PartsAt.mono _ _ _ _ h2 (fun k hk _ => ⟨hk.1.1, hk.2⟩)
  · have h1 : PartsAt w3 (fun k => wr.heap.size ≤ k ∧ k < w3.heap.size) [q] [t'] := PartsAt.mono _ _ _ _ hq (fun k hk hl' => ⟨hk, hl'⟩)
    have h2 : PartsAt (w5.setCell ⟨p, 1, none⟩ v') (fun k => wr.heap.size ≤ k ∧ k < w3.heap.size) [q] [t'] := PartsAt.same _ _ _ h1 (fun k hk hl' => by
      rw [b6 k (by omega), b5 k hl' (fun e => by have := hl k e; omega)])
    exact PartsAt.mono _ _ _ _ h2 (fun k hk _ => ⟨by omega, fun e => by
      rcases hloc with q | q
      · have := hl k (q ▸ e); omega
      · rw [q] at e; simp at e; omega⟩)

theorem part_count {w2 w3 : World} {r q : Nat} {S : Nat → Prop} {t : Tr} {m n : Int} {l : Value} {qs : List Nat} (h : PtAt w3 q (psOf { t.lab with min := m, max := n } l)) (hS : S q) (hown : w2.ownsRow (q + 1) 40 1 l qs.length (qs.map ptr)) (hl : ∀ g, l.ownBlock = some g → S g)
    (hp : PartsAt w2 (fun k => S k ∧ q < k ∧ l.ownBlock ≠ some k) qs t.kids) (u : Upd [r, q] w2 w3) (hr : ¬ S r) : PartsAt w3 S [q] [⟨{ t.lab with min := m, max := n }, t.kids⟩] := by
  rw [PartsAt_cons]
  refine ⟨hS, ⟨l, qs, h, ownsRow_same hown (fun g hg hlt => u.block g hlt ?_), hl, hp.upd u ?_⟩, PartsAt_nil _ _⟩
  · have := (ownBlock_lt hown hg).2
    simp; exact ⟨fun e => hr (e ▸ hl g hg), by omega⟩
  · intro k hk; simp at hk; rcases hk with rfl | rfl
    · exact fun e => hr e.1
    · exact fun e => absurd e.2.1 (Nat.lt_irrefl _)

theorem infoPart : ∃ i, Tryd.prog.info? 40 = some i ∧ i.zero = some (.pointer none) ∧ i.size = 1 ∧ i.bytes = 8 := by
  have h : (Tryd.prog.info? 40).map (fun i => (i.zero, i.size, i.bytes)) = some (some (.pointer none), 1, 8) := by kernel_rfl
  cases hi : Tryd.prog.info? 40 with
  | none => rw [hi] at h; cases h
  | some i => rw [hi] at h; simp at h; exact ⟨i, rfl, h.1, h.2.1, h.2.2⟩

structure RowInv (r : Nat) (s : ByteArray) (i0 : Nat) (a : Int) (d : Nat) (t0 : Int) (sub : Sp.At → Sp.Res (Tr × Sp.At)) (w : World) (n : Nat) (wr : World) : Prop where
  upd : Upd [r] w wr
  st : (∃ y ts qs l, RdAt wr r s ⟨y.i, 0, a, d, y.t⟩ ∧ PtAt wr w.heap.size (psOf rLab l) ∧ Kids wr w.heap.size l qs ts ∧ Sp.parts sub s d (s.size + 1) [] ⟨i0, t0⟩ = Sp.parts sub s d n ts y ∧ s.size + 1 ≤ n + y.i ∧ y.i ≤ s.size ∧ ts.length ≤ y.i ∧ 0 ≤ y.t ∧ y.t ≤ 9) ∨
    (n = 0 ∧ ∃ e1 a1 i' t' ps, e1 ≠ 0 ∧ Sp.parts sub s d (s.size + 1) [] ⟨i0, t0⟩ = .error (e1, a1) ∧ RdAt wr r s ⟨i', e1, a1, d, t'⟩ ∧ PtAt wr w.heap.size ps)

theorem row_fin {r : Nat} {s : ByteArray} {i0 : Nat} {a d' t0 : Int} {d : Nat} {sub : Sp.At → Sp.Res (Tr × Sp.At)} {w w2 : World} {y : Sp.At} {ts : List Tr} {qs : List Nat} {l : Value} {tr : Tr} {res : Sp.Res (Tr × Sp.At)} {lab : Lab} (hq : res = .ok (⟨lab, ts⟩, y))
    (hu : Upd [r] w w2) (hf : RdAt w2 r s ⟨y.i, 0, a, d', y.t⟩) (hp : PtAt w2 w.heap.size (psOf lab l)) (hk : Kids w2 w.heap.size l qs ts) : PartOut r s ⟨i0, 0, a, d', t0⟩ w res (.returned (.pointer (some ⟨w.heap.size, 0, none⟩))) w2 := by
  subst hq
  refine ⟨hu, w.heap.size, rfl, ?_, hf⟩
  rw [PartsAt_cons]
  exact ⟨Nat.le_refl _, ⟨l, qs, hp, hk.own, fun g hg => by have := (ownBlock_lt hk.own hg).2; omega, PartsAt.mono _ _ _ _ hk.parts (fun k hk _ => ⟨by omega, hk⟩)⟩, PartsAt_nil _ _⟩
theorem row_no {r : Nat} {s : ByteArray} {i0 i' : Nat} {a d' t0 t' e1 a1 : Int} {w w2 : World} {ps : PS} {res : Sp.Res (Tr × Sp.At)} (hq : res = .error (e1, a1)) (he : e1 ≠ 0)
    (hu : Upd [r] w w2) (hf : RdAt w2 r s ⟨i', e1, a1, d', t'⟩) (hp : PtAt w2 w.heap.size ps) : PartOut r s ⟨i0, 0, a, d', t0⟩ w res (.returned (.pointer (some ⟨w.heap.size, 0, none⟩))) w2 := by
  subst hq
  exact ⟨hu, he, w.heap.size, i', t', ps, rfl, Nat.le_refl _, hp, hf⟩

set_option maxHeartbeats 1000000 in
theorem row_any (r : Nat) (s : ByteArray) (i0 : Nat) (a : Int) (d : Nat) (t0 : Int) (w : World) (h : RdAt w r s ⟨i0, 0, a, d, t0⟩) (hs : s.size ≤ 200) (hi0 : i0 ≤ s.size) (hd9 : d ≤ 8) (ht0 : 0 ≤ t0) (ht9 : t0 ≤ 9) (k : Nat) (hsub : d < 8 → ChoiceC k) (hk : (d : Int) = 8 - (k : Int)) :
    Calls Tryd.prog 34 #[.pointer (some ⟨r, 0, none⟩)] w (PartOut r s ⟨i0, 0, a, d, t0⟩ w (Sp.row (Sp.choice s k) s d ⟨i0, t0⟩)) := by
  have hr := h.lt
  have hrp : r ≠ w.heap.size := by omega
  obtain ⟨it, hi1, hi2, hi3, hi4⟩ := infoPart
  have HI : Hid (Tryd.prog.info? 40 = some it ∧ it.zero = some (.pointer none) ∧ it.size = 1 ∧ it.bytes = 8) := ⟨hi1, hi2, hi3, hi4⟩
  have HK : Hid ((d : Int) = 8 - (k : Int)) := hk
  have hh : Hid (RdAt w r s ⟨i0, 0, a, d, t0⟩) := h
  have hpn : Hid (PtAt (w.alloc (.cells ((Tryd.zeroCells77.setIfInBounds 0 (.int .u8 32)).setIfInBounds 262 (.int .i64 (-1))) 77)) w.heap.size (psOf rLab (.slice none 0 0))) := PtAt.new ((PtC.zero.set0 32).set262 (-1))
  clear h hk hi1 hi2 hi3 hi4
  go_enter Tryd.func34, Tryd.ntmps34
  go_wp2_with fail
  go_loopg [] (s.size + 1) (fun gn wr => RowInv r s i0 a d t0 (Sp.choice s k) w gn wr)
  case atStart => exact ⟨(Upd.refl _ _).alloc _, Or.inl ⟨⟨i0, t0⟩, [], [], _, hh.out.alloc _, hpn.out, Kids.empty _ _, rfl, by simp, hi0, by simp, ht0, ht9⟩⟩
  case round =>
    clear hpn hh
    obtain ⟨hu, hst⟩ := hrel
    rcases hst with ⟨y, ts, qs, l, hf, hp, hkid, heq, hgn, hys, hlen, hy0, hy9⟩ | ⟨rfl, e1, a1, i', t', ps, he1, heq, hf, hp⟩
    · obtain ⟨fuel, rfl⟩ : ∃ n, gk = n + 1 := ⟨gk - 1, by omega⟩
      obtain ⟨c0, c1, c2, c3, c4, c5, fz⟩ := hf.facts
      have HF : Hid (RdAt wr r s ⟨y.i, 0, a, d, y.t⟩) := hf
      have HP : Hid (PtAt wr w.heap.size (psOf rLab l)) := hp
      have HU : Hid (Upd [r] w wr) := hu
      have HD : Hid (Kids wr w.heap.size l qs ts) := hkid
      have HQ : Hid (Sp.parts (Sp.choice s k) s d (s.size + 1) [] ⟨i0, t0⟩ = Sp.parts (Sp.choice s k) s d (fuel + 1) ts y) := heq
      clear hf hp hu heq hkid
      cases ho : Sp.over s y.i
      case true =>
        have HR : Hid (Sp.row (Sp.choice s k) s d ⟨i0, t0⟩ = .ok (⟨rLab, ts⟩, y)) := by show _ = _; unfold Sp.row; rw [HQ.out]; unfold Sp.parts; simp [ho]; rfl
        go_wp2_with fail
        refine (atom_over r s y.i a d y.t _ (by exact HF.out) hs ho).mono ?_
        rintro e w2 ⟨rfl, hu2, hf2⟩
        have HU2 : Hid (Upd [r] w w2) := HU.out.trans hu2
        have HP2 : Hid (PtAt w2 w.heap.size (psOf rLab l)) := HP.out.upd hu2 (by simpa using hrp.symm)
        have HD2 : Hid (Kids w2 w.heap.size l qs ts) := HD.out.upd hu2 (by omega)
        have HF2 : Hid (RdAt w2 r s ⟨y.i, 0, a, d, y.t⟩) := hf2
        clear hu2 hf2 ho
        go_wp2_with fail
        go_ret
        exact row_fin (d := d) (sub := Sp.choice s k) (tr := ⟨rLab, ts⟩) HR.out HU2.out HF2.out HP2.out HD2.out
      case false =>
        go_wp2_with fail
        refine (atom_any r s y.i a d y.t _ (by exact HF.out) hs hd9 hy0 hy9 k hsub HK.out ho).mono ?_
        rintro e w2 ⟨hu2, hq2⟩
        have hwr : w.heap.size < wr.heap.size := HP.out.lt
        have HP2 : Hid (PtAt w2 w.heap.size (psOf rLab l)) := HP.out.upd hu2 (by simpa using hrp.symm)
        have HU2 : Hid (Upd [r] w w2) := HU.out.trans hu2
        have HW2 : Hid (Upd [r] wr w2) := hu2
        have HO : Hid (Sp.over s y.i = false) := ho
        clear hu2 ho c0 c1 c2 c3 c4 c5 fz
        revert hq2
        cases hr2 : Sp.atom (Sp.choice s k) s d y
        case error f =>
          obtain ⟨e1, a1⟩ := f
          rintro ⟨he1, q, i', t', ps2, rfl, hq2, hpq, hf2⟩
          have HE1 : Hid (e1 ≠ 0) := he1
          have HR : Hid (Sp.parts (Sp.choice s k) s d (s.size + 1) [] ⟨i0, t0⟩ = .error (e1, a1)) := by show _ = _; rw [HQ.out]; unfold Sp.parts Sp.part; rw [HO.out, hr2]; rfl
          have HF2 : Hid (RdAt w2 r s ⟨i', e1, a1, d, t'⟩) := hf2
          have HD2 : Hid (Kids w2 w.heap.size l qs ts) := HD.out.upd HW2.out (by omega)
          have hql : qs.length ≤ 200 := by have := PartsAt.length _ _ HD.out.parts; omega
          clear hf2 hr2 he1
          unfold ptr
          go_wp2_with fail
          refine (count_err r q s ⟨i', e1, a1, d, t'⟩ _ (by exact HF2.out) hs HE1.out).mono ?_
          rintro e w3 ⟨rfl, n3, hw3⟩
          have HF3 : Hid (RdAt w3 r s ⟨i', e1, a1, d, t'⟩) := by rw [hw3]; exact HF2.out
          have HP3 : Hid (PtAt w3 w.heap.size (psOf rLab l)) := by rw [hw3]; exact HP2.out
          have HD3 : Hid (Kids w3 w.heap.size l qs ts) := HD2.out.same (fun k _ _ => by rw [hw3]; rfl)
          have HU3 : Hid (Upd [r] w w3) := by rw [hw3]; exact HU2.out.drewN
          have hp3 : w.heap.size < w3.heap.size := HP3.out.lt
          clear hw3 HP2 HF2 HU2 HD2 HW2
          obtain ⟨p0, p1', p258, p259, p260, p261, p262, p263, pz⟩ := HP3.out.facts
          have p1 : w3.cell? ⟨w.heap.size, 1, none⟩ = some l := p1'
          clear p1'
          go_wp2_with (first | (at_builtin; refine wpList_append_own_at _ rfl _ _ 74 rfl (w.heap.size + 1) 40 it (.pointer none) 1 8 Tryd.underlying74 HI.out.1 HI.out.2.1 HI.out.2.2.1 HI.out.2.2.2 rfl (by decide) _ _ _ rfl (HD3.out.own.alloc _) ⟨w3.heap.size, 0, none⟩ 1 1 [.pointer (some ⟨q, 0, none⟩)] rfl rfl ?c1 ?c2 ?c3 ?c4 ?c5 ?_) | fail)
          case c1 => exact cell_one_new _ _ _
          case c2 => intro u hu; simp at hu; subst hu; rfl
          case c3 => unfold maxLen; omega
          case c4 => omega
          case c5 => simp; omega
          intro v' w5 hown' hgrow hnil hloc
          have HP5 : Hid (PtAt w5 w.heap.size (psOf rLab l)) := HP3.out.same (own_le hgrow HD.out.own _ (Nat.le_refl _) hp3)
          have HF5 : Hid (RdAt w5 r s ⟨i', e1, a1, d, t'⟩) := (own_le hgrow HD.out.own r (by omega) (by omega)).trans HF3.out
          have HU5 : Hid (Upd [r] w w5) := (HU3.out.alloc _).shrink (Upd.of_grown hgrow) (fun g hg => by
            right; have e : l.ownBlock = some g := by simpa using hg
            have := (ownBlock_lt HD.out.own e).2; omega)
          obtain ⟨g5, cap5, hv5⟩ := own_form hown'
          rw [hv5]
          clear hown' hgrow hnil hloc hv5 p0 p1 p258 p259 p260 p261 p262 p263 pz
          obtain ⟨p0, p1, p258, p259, p260, p261, p262, p263, pz⟩ := HP5.out.facts
          go_wp2_with fail
          go_roundg 0
          case measure => omega
          case rel => exact ⟨HU5.out.shrink ((Upd.refl [w.heap.size] _).setCell (by simp) _) (fun g hg => by right; simp at hg; omega), Or.inr ⟨rfl, e1, a1, i', t', _, HE1.out, HR.out, HF5.out.other hrp _ _, HP5.out.set1 _⟩⟩
        case ok f =>
          obtain ⟨t, z⟩ := f
          rintro ⟨q, rfl, hq2, hf2⟩
          obtain ⟨hz1, hz2, hz3, hz4, hmin, hmax⟩ := Sp.atom_good (Sp.choice_good s k) hr2 hy0 hy9
          have ht : t = ⟨t.lab, t.kids⟩ := by cases t; rfl
          rw [ht, PartsAt_cons] at hq2
          clear ht
          obtain ⟨hqS, ⟨l2, qs2, hpq, hown2, hl2, hkids2⟩, _⟩ := hq2
          have HX : Hid (PtAt w2 q (psOf t.lab l2) ∧ w2.ownsRow (q + 1) 40 1 l2 qs2.length (qs2.map ptr) ∧ (∀ g, l2.ownBlock = some g → wr.heap.size ≤ g) ∧ PartsAt w2 (fun k => wr.heap.size ≤ k ∧ q < k ∧ l2.ownBlock ≠ some k) qs2 t.kids) := ⟨hpq, hown2, hl2, hkids2⟩
          have HF2 : Hid (RdAt w2 r s ⟨z.i, 0, a, d, z.t⟩) := hf2
          have HR2 : Hid (Sp.atom (Sp.choice s k) s d y = .ok (t, z)) := hr2
          have HM : Hid (t.lab.min = -1 ∧ t.lab.max = 0) := ⟨hmin, hmax⟩
          have hql : qs.length ≤ 200 := by have := PartsAt.length _ _ HD.out.parts; omega
          have hrq : r ≠ q := by omega
          clear hf2 hr2 hmin hmax hpq hown2 hl2 hkids2
          unfold ptr
          go_wp2_with fail
          refine (count_any r q s ⟨z.i, 0, a, d, z.t⟩ (psOf t.lab l2) _ (by exact HF2.out) (by exact HX.out.1) hrq hs rfl HM.out.1 HM.out.2).mono ?_
          rintro e w3 ⟨rfl, hu3, hq3⟩
          have HP3 : Hid (PtAt w3 w.heap.size (psOf rLab l)) := HP2.out.upd hu3 (by simp; omega)
          have HU3 : Hid (Upd [r] w w3) := HU2.out.shrink hu3 (fun g hg => by simp at hg; rcases hg with rfl | rfl; exact Or.inl rfl; right; omega)
          have HW3 : Hid (Upd [r, q] w2 w3) := hu3
          have HB3 : Hid (∀ k, w.heap.size < k → k < wr.heap.size → w3.heap[k]? = wr.heap[k]?) := fun k hk1 hk2 => (hu3.block k (Nat.lt_of_lt_of_le hk2 HW2.out.size) (by simp; omega)).trans (HW2.out.block k hk2 (by simp; omega))
          have HD3 : Hid (Kids w3 w.heap.size l qs ts) := HD.out.same HB3.out
          have hp3 : w.heap.size < w3.heap.size := HP3.out.lt
          have hs3 : wr.heap.size ≤ w3.heap.size := Nat.le_trans HW2.out.size hu3.size
          clear hu3 HP2 HU2
          obtain ⟨p0, p1', p258, p259, p260, p261, p262, p263, pz⟩ := HP3.out.facts
          have p1 : w3.cell? ⟨w.heap.size, 1, none⟩ = some l := p1'
          clear p1'
          revert hq3
          cases hr3 : Sp.count s z.i
          case error f =>
            obtain ⟨e1, a1⟩ := f
            rintro ⟨he1, i', mn, mx, hf3, hpq3⟩
            have HE1 : Hid (e1 ≠ 0) := he1
            have HR : Hid (Sp.parts (Sp.choice s k) s d (s.size + 1) [] ⟨i0, t0⟩ = .error (e1, a1)) := by show _ = _; rw [HQ.out]; unfold Sp.parts Sp.part; rw [HO.out, HR2.out]; simp [hr3]
            have HF3 : Hid (RdAt w3 r s ⟨i', e1, a1, d, z.t⟩) := hf3
            clear hf3 hr3 he1 hpq3
            go_wp2_with (first | (at_builtin; refine wpList_append_own_at _ rfl _ _ 74 rfl (w.heap.size + 1) 40 it (.pointer none) 1 8 Tryd.underlying74 HI.out.1 HI.out.2.1 HI.out.2.2.1 HI.out.2.2.2 rfl (by decide) _ _ _ rfl (HD3.out.own.alloc _) ⟨w3.heap.size, 0, none⟩ 1 1 [.pointer (some ⟨q, 0, none⟩)] rfl rfl ?c1 ?c2 ?c3 ?c4 ?c5 ?_) | fail)
            case c1 => exact cell_one_new _ _ _
            case c2 => intro u hu; simp at hu; subst hu; rfl
            case c3 => unfold maxLen; omega
            case c4 => omega
            case c5 => simp; omega
            intro v' w5 hown' hgrow hnil hloc
            have HP5 : Hid (PtAt w5 w.heap.size (psOf rLab l)) := HP3.out.same (own_le hgrow HD.out.own _ (Nat.le_refl _) hp3)
            have HF5 : Hid (RdAt w5 r s ⟨i', e1, a1, d, z.t⟩) := (own_le hgrow HD.out.own r (by omega) (by omega)).trans HF3.out
            have HU5 : Hid (Upd [r] w w5) := (HU3.out.alloc _).shrink (Upd.of_grown hgrow) (fun g hg => by
              right; have e : l.ownBlock = some g := by simpa using hg
              have := (ownBlock_lt HD.out.own e).2; omega)
            obtain ⟨g5, cap5, hv5⟩ := own_form hown'
            rw [hv5]
            clear hown' hgrow hnil hloc hv5 p0 p1 p258 p259 p260 p261 p262 p263 pz
            obtain ⟨p0, p1, p258, p259, p260, p261, p262, p263, pz⟩ := HP5.out.facts
            go_wp2_with fail
            go_roundg 0
            case measure => omega
            case rel => exact ⟨HU5.out.shrink ((Upd.refl [w.heap.size] _).setCell (by simp) _) (fun g hg => by right; simp at hg; omega), Or.inr ⟨rfl, e1, a1, i', z.t, _, HE1.out, HR.out, HF5.out.other hrp _ _, HP5.out.set1 _⟩⟩
          case ok f =>
            obtain ⟨m, n, j⟩ := f
            rintro ⟨hf3, hpq3⟩
            obtain ⟨hj1, hj2⟩ := Sp.count_in hr3 hz2
            have HR : Hid (Sp.parts (Sp.choice s k) s d (s.size + 1) [] ⟨i0, t0⟩ = Sp.parts (Sp.choice s k) s d fuel (ts ++ [⟨{ t.lab with min := m, max := n }, t.kids⟩]) ⟨j, z.t⟩) := by show _ = _; rw [HQ.out, Sp.parts]; rw [HO.out]; simp only [Sp.part, HR2.out, hr3]; rfl
            have HF3 : Hid (RdAt w3 r s ⟨j, 0, a, d, z.t⟩) := hf3
            have HT3 : Hid (PartsAt w3 (fun k => wr.heap.size ≤ k) [q] [⟨{ t.lab with min := m, max := n }, t.kids⟩]) := part_count (r := r) hpq3 hqS HX.out.2.1 HX.out.2.2.1 HX.out.2.2.2 HW3.out (by omega)
            clear hf3 hr3 hpq3
            go_wp2_with (first | (at_builtin; refine wpList_append_own_at _ rfl _ _ 74 rfl (w.heap.size + 1) 40 it (.pointer none) 1 8 Tryd.underlying74 HI.out.1 HI.out.2.1 HI.out.2.2.1 HI.out.2.2.2 rfl (by decide) _ _ _ rfl (HD3.out.own.alloc _) ⟨w3.heap.size, 0, none⟩ 1 1 [.pointer (some ⟨q, 0, none⟩)] rfl rfl ?c1 ?c2 ?c3 ?c4 ?c5 ?_) | fail)
            case c1 => exact cell_one_new _ _ _
            case c2 => intro u hu; simp at hu; subst hu; rfl
            case c3 => unfold maxLen; omega
            case c4 => omega
            case c5 => simp; omega
            intro v' w5 hown' hgrow hnil hloc
            have HP5 : Hid (PtAt w5 w.heap.size (psOf rLab l)) := HP3.out.same (own_le hgrow HD.out.own _ (Nat.le_refl _) hp3)
            have HF5 : Hid (RdAt w5 r s ⟨j, 0, a, d, z.t⟩) := (own_le hgrow HD.out.own r (by omega) (by omega)).trans HF3.out
            have HU5 : Hid (Upd [r] w w5) := (HU3.out.alloc _).shrink (Upd.of_grown hgrow) (fun g hg => by
              right; have e : l.ownBlock = some g := by simpa using hg
              have := (ownBlock_lt HD.out.own e).2; omega)
            have HK5 : Hid (Kids (w5.setCell ⟨w.heap.size, 1, none⟩ v') w.heap.size v' (qs ++ [q]) (ts ++ [⟨{ t.lab with min := m, max := n }, t.kids⟩])) := HD.out.step HT3.out hwr HB3.out hs3 hown' hgrow hloc
            obtain ⟨g5, cap5, hv5⟩ := own_form hown'
            rw [hv5] at HK5 ⊢
            clear hown' hgrow hnil hloc hv5 p0 p1 p258 p259 p260 p261 p262 p263 pz
            obtain ⟨p0, p1, p258, p259, p260, p261, p262, p263, pz⟩ := HP5.out.facts
            go_wp2_with fail
            go_roundg fuel
            case measure => omega
            case rel => exact ⟨HU5.out.shrink ((Upd.refl [w.heap.size] _).setCell (by simp) _) (fun g hg => by right; simp at hg; omega), Or.inl ⟨⟨j, z.t⟩, _, _, _, HF5.out.other hrp _ _, HP5.out.set1 _, HK5.out, HR.out, by simp; omega, hj2, by simp; omega, hz3, hz4⟩⟩
    · obtain ⟨c0, c1, c2, c3, c4, c5, fz⟩ := hf.facts
      have HEb : (e1 == 0) = false := by simpa using he1
      have A : Aside (e1 ≠ 0 ∧ Sp.row (Sp.choice s k) s d ⟨i0, t0⟩ = .error (e1, a1) ∧ RdAt wr r s ⟨i', e1, a1, d, t'⟩ ∧ PtAt wr w.heap.size ps ∧ Upd [r] w wr) := ⟨he1, by unfold Sp.row; rw [heq], hf, hp, hu⟩
      clear he1 heq hf hp hu
      go_wp2_with fail
      go_ret
      obtain ⟨he1, heq, hf, hp, hu⟩ := A.out
      exact row_no heq he1 hu hf hp
end Go.Proofs.YtcpfpnjkfahjcaaDoor
