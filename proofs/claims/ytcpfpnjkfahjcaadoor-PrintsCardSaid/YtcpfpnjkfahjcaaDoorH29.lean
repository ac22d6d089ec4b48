import Derived.Test.YtcpfpnjkfahjcaaDoorH28
set_option linter.unusedSimpArgs false
set_option linter.unusedVariables false
namespace Go.Proofs.YtcpfpnjkfahjcaaDoor
open Go.RowKit

structure ChoiceInv (r : Nat) (s : ByteArray) (i0 : Nat) (a : Int) (d : Nat) (t0 : Int) (sub : Sp.At → Sp.Res (Tr × Sp.At)) (w : World) (n : Nat) (wr : World) : Prop where
  upd : Upd [r] w wr
  st : ∃ y ts qs l, RdAt wr r s ⟨y.i, 0, a, d, y.t⟩ ∧ PtAt wr w.heap.size (psOf cLab l) ∧ Kids wr w.heap.size l qs ts ∧ Sp.rows sub s d (s.size + 1) [] ⟨i0, t0⟩ = Sp.rows sub s d n ts y ∧ s.size + 1 ≤ n + y.i ∧ y.i ≤ s.size ∧ ts.length ≤ y.i ∧ 0 ≤ y.t ∧ y.t ≤ 9

set_option maxHeartbeats 1000000 in
theorem choice_step (k : Nat) (hk8 : k ≤ 8) (hsub : 1 ≤ k → ChoiceC k) : ChoiceC (k + 1) := by
  intro r s x w h hs he hi hd ht0 ht9
  obtain ⟨i0, e0, a, dd, t0⟩ := x
  obtain rfl : e0 = 0 := he
  obtain ⟨d, hdk⟩ : ∃ d : Nat, d = 8 - k := ⟨_, rfl⟩
  obtain rfl : dd = (d : Int) := by simp at hd; omega
  have hi0 : i0 ≤ s.size := hi
  have ht0' : 0 ≤ t0 := ht0
  have ht9' : t0 ≤ 9 := ht9
  have hd9 : d ≤ 8 := by omega
  have hsub' : d < 8 → ChoiceC k := fun q => hsub (by omega)
  have HK : Hid ((d : Int) = 8 - (k : Int)) := by show _ = _; omega
  have HDK : Hid (d = 8 - k) := hdk
  clear hd hi ht0 ht9 hdk hsub
  have hr := h.lt
  have hrp : r ≠ w.heap.size := by omega
  obtain ⟨it, hi1, hi2, hi3, hi4⟩ := infoPart
  have HI : Hid (Tryd.prog.info? 40 = some it ∧ it.zero = some (.pointer none) ∧ it.size = 1 ∧ it.bytes = 8) := ⟨hi1, hi2, hi3, hi4⟩
  have hh : Hid (RdAt w r s ⟨i0, 0, a, d, t0⟩) := h
  have hpn : Hid (PtAt (w.alloc (.cells ((Tryd.zeroCells77.setIfInBounds 0 (.int .u8 124)).setIfInBounds 262 (.int .i64 (-1))) 77)) w.heap.size (psOf cLab (.slice none 0 0))) := PtAt.new ((PtC.zero.set0 124).set262 (-1))
  clear h hi1 hi2 hi3 hi4
  go_enter Tryd.func19, Tryd.ntmps19
  go_wp2_with fail
  go_loopg [] (s.size + 1) (fun gn wr => ChoiceInv r s i0 a d t0 (Sp.choice s k) w gn wr)
  case atStart => exact ⟨(Upd.refl _ _).alloc _, ⟨i0, t0⟩, [], [], _, hh.out.alloc _, hpn.out, Kids.empty _ _, rfl, by simp, hi0, by simp, ht0', ht9'⟩
  case round =>
    clear hpn hh
    obtain ⟨hu, y, ts, qs, l, hf, hp, hkid, heq, hgn, hys, hlen, hy0, hy9⟩ := hrel
    obtain ⟨fuel, rfl⟩ : ∃ n, gk = n + 1 := ⟨gk - 1, by omega⟩
    obtain ⟨c0, c1, c2, c3, c4, c5, fz⟩ := hf.facts
    have HF : Hid (RdAt wr r s ⟨y.i, 0, a, d, y.t⟩) := hf
    have HP : Hid (PtAt wr w.heap.size (psOf cLab l)) := hp
    have HU : Hid (Upd [r] w wr) := hu
    have HD : Hid (Kids wr w.heap.size l qs ts) := hkid
    have HQ : Hid (Sp.rows (Sp.choice s k) s d (s.size + 1) [] ⟨i0, t0⟩ = Sp.rows (Sp.choice s k) s d (fuel + 1) ts y) := heq
    have HC : Hid (Sp.choice s (k + 1) ⟨i0, t0⟩ = match Sp.rows (Sp.choice s k) s d (fuel + 1) ts y with | .error f => .error f | .ok (l, z) => .ok (⟨cLab, l⟩, z)) := by show _ = _; rw [Sp.choice, ← HDK.out, HQ.out]; rfl
    have hwr : w.heap.size < wr.heap.size := HP.out.lt
    have hql : qs.length ≤ 200 := by have := PartsAt.length _ _ HD.out.parts; omega
    clear hf hp hu heq hkid
    go_wp2_with fail
    refine (row_any r s y.i a d y.t _ (by exact HF.out) hs hys hd9 hy0 hy9 k hsub' HK.out).mono ?_
    rintro e w2 ⟨hu2, hq2⟩
    have HP2 : Hid (PtAt w2 w.heap.size (psOf cLab l)) := HP.out.upd hu2 (by simpa using hrp.symm)
    have HU2 : Hid (Upd [r] w w2) := HU.out.trans hu2
    have HD2 : Hid (Kids w2 w.heap.size l qs ts) := HD.out.upd hu2 (by omega)
    have HB2 : Hid (∀ k, w.heap.size < k → k < wr.heap.size → w2.heap[k]? = wr.heap[k]?) := fun k hk1 hk2 => hu2.block k hk2 (by simp; omega)
    have hp2 : w.heap.size < w2.heap.size := HP2.out.lt
    have hs2 : wr.heap.size ≤ w2.heap.size := hu2.size
    obtain ⟨p0, p1', p258, p259, p260, p261, p262, p263, pz⟩ := HP2.out.facts
    have p1 : w2.cell? ⟨w.heap.size, 1, none⟩ = some l := p1'
    clear hu2 p1' c0 c1 c2 c3 c4 c5 fz
    revert hq2
    cases hr2 : Sp.row (Sp.choice s k) s d y
    case error f =>
      obtain ⟨e1, a1⟩ := f
      rintro ⟨he1, q, i', t', ps2, rfl, hq2, hpq, hf2⟩
      have HE1 : Hid (e1 ≠ 0) := he1
      have HR : Hid (Sp.choice s (k + 1) ⟨i0, t0⟩ = .error (e1, a1)) := by show _ = _; rw [HC.out, Sp.rows, hr2]
      have HF2 : Hid (RdAt w2 r s ⟨i', e1, a1, d, t'⟩) := hf2
      clear hf2 hr2 he1 hpq
      unfold ptr
      go_wp2_with (first | (at_builtin; refine wpList_append_own_at _ rfl _ _ 74 rfl (w.heap.size + 1) 40 it (.pointer none) 1 8 Tryd.underlying74 HI.out.1 HI.out.2.1 HI.out.2.2.1 HI.out.2.2.2 rfl (by decide) _ _ _ rfl (HD2.out.own.alloc _) ⟨w2.heap.size, 0, none⟩ 1 1 [.pointer (some ⟨q, 0, none⟩)] rfl rfl ?c1 ?c2 ?c3 ?c4 ?c5 ?_) | fail)
      case c1 => exact cell_one_new _ _ _
      case c2 => intro u hu; simp at hu; subst hu; rfl
      case c3 => unfold maxLen; omega
      case c4 => omega
      case c5 => simp; omega
      intro v' w5 hown' hgrow hnil hloc
      have HP5 : Hid (PtAt w5 w.heap.size (psOf cLab l)) := HP2.out.same (own_le hgrow HD.out.own _ (Nat.le_refl _) hp2)
      have HF5 : Hid (RdAt w5 r s ⟨i', e1, a1, d, t'⟩) := (own_le hgrow HD.out.own r (by omega) (by omega)).trans HF2.out
      have HU5 : Hid (Upd [r] w w5) := (HU2.out.alloc _).shrink (Upd.of_grown hgrow) (fun g hg => by
        right; have e : l.ownBlock = some g := by simpa using hg
        have := (ownBlock_lt HD.out.own e).2; omega)
      obtain ⟨g5, cap5, hv5⟩ := own_form hown'
      rw [hv5]
      clear hown' hgrow hnil hloc hv5 p0 p1 p258 p259 p260 p261 p262 p263 pz
      obtain ⟨p0, p1, p258, p259, p260, p261, p262, p263, pz⟩ := HP5.out.facts
      go_wp2_with fail
      refine (is_any r s ⟨i', e1, a1, d, t'⟩ _ _ (by exact HF5.out.other hrp _ _) hs).mono ?_
      rw [isB_err (by exact HE1.out)]
      rintro e w7 ⟨rfl, hu7, hf7⟩
      have HP7 : Hid (PtAt w7 w.heap.size _) := (HP5.out.set1 _).upd hu7 (by simpa using hrp.symm)
      have HU7 : Hid (Upd [r] w w7) := (HU5.out.shrink ((Upd.refl [w.heap.size] _).setCell (p := ⟨w.heap.size, 1, none⟩) (by simp) _) (fun g hg => by right; simp at hg; omega)).trans hu7
      have HF7 : Hid (RdAt w7 r s ⟨i', e1, a1, d, t'⟩) := hf7
      clear hu7 hf7
      go_wp2_with fail
      go_ret
      exact row_no HR.out HE1.out HU7.out HF7.out HP7.out
    case ok f =>
      obtain ⟨tr, z⟩ := f
      rintro ⟨q, rfl, hq2, hf2⟩
      obtain ⟨hz1, hz2, hz3, hz4⟩ := Sp.row_good (Sp.choice_good s k) y tr z hr2 hys hy0 hy9
      have HT2 : Hid (PartsAt w2 (fun k => wr.heap.size ≤ k) [q] [tr]) := hq2
      have HR2 : Hid (Sp.row (Sp.choice s k) s d y = .ok (tr, z)) := hr2
      have HF2 : Hid (RdAt w2 r s ⟨z.i, 0, a, d, z.t⟩) := hf2
      clear hf2 hr2 hq2
      unfold ptr
      go_wp2_with (first | (at_builtin; refine wpList_append_own_at _ rfl _ _ 74 rfl (w.heap.size + 1) 40 it (.pointer none) 1 8 Tryd.underlying74 HI.out.1 HI.out.2.1 HI.out.2.2.1 HI.out.2.2.2 rfl (by decide) _ _ _ rfl (HD2.out.own.alloc _) ⟨w2.heap.size, 0, none⟩ 1 1 [.pointer (some ⟨q, 0, none⟩)] rfl rfl ?c1 ?c2 ?c3 ?c4 ?c5 ?_) | fail)
      case c1 => exact cell_one_new _ _ _
      case c2 => intro u hu; simp at hu; subst hu; rfl
      case c3 => unfold maxLen; omega
      case c4 => omega
      case c5 => simp; omega
      intro v' w5 hown' hgrow hnil hloc
      have HP5 : Hid (PtAt w5 w.heap.size (psOf cLab l)) := HP2.out.same (own_le hgrow HD.out.own _ (Nat.le_refl _) hp2)
      have HF5 : Hid (RdAt w5 r s ⟨z.i, 0, a, d, z.t⟩) := (own_le hgrow HD.out.own r (by omega) (by omega)).trans HF2.out
      have HU5 : Hid (Upd [r] w w5) := (HU2.out.alloc _).shrink (Upd.of_grown hgrow) (fun g hg => by
        right; have e : l.ownBlock = some g := by simpa using hg
        have := (ownBlock_lt HD.out.own e).2; omega)
      have HK5 : Hid (Kids (w5.setCell ⟨w.heap.size, 1, none⟩ v') w.heap.size v' (qs ++ [q]) (ts ++ [tr])) := HD.out.step HT2.out hwr HB2.out hs2 hown' hgrow hloc
      obtain ⟨g5, cap5, hv5⟩ := own_form hown'
      rw [hv5] at HK5 ⊢
      clear hown' hgrow hnil hloc hv5 p0 p1 p258 p259 p260 p261 p262 p263 pz
      obtain ⟨p0, p1, p258, p259, p260, p261, p262, p263, pz⟩ := HP5.out.facts
      go_wp2_with fail
      refine (is_any r s ⟨z.i, 0, a, d, z.t⟩ _ _ (by exact HF5.out.other hrp _ _) hs).mono ?_
      rw [isB_ok rfl]
      rintro e w7 ⟨rfl, hu7, hf7⟩
      have HP7 : Hid (PtAt w7 w.heap.size (psOf cLab (.slice (some ⟨g5, 0, none⟩) (qs.length + 1) cap5))) := (HP5.out.set1 _).upd hu7 (by simpa using hrp.symm)
      have HK7 : Hid (Kids w7 w.heap.size (.slice (some ⟨g5, 0, none⟩) (qs.length + 1) cap5) (qs ++ [q]) (ts ++ [tr])) := HK5.out.upd hu7 (by omega)
      have HU7 : Hid (Upd [r] w w7) := (HU5.out.shrink ((Upd.refl [w.heap.size] _).setCell (p := ⟨w.heap.size, 1, none⟩) (by simp) _) (fun g hg => by right; simp at hg; omega)).trans hu7
      clear hu7 p0 p1 p258 p259 p260 p261 p262 p263 pz
      cases hb : Sp.isAt s z.i 124
      case false =>
        have HR : Hid (Sp.choice s (k + 1) ⟨i0, t0⟩ = .ok (⟨cLab, ts ++ [tr]⟩, z)) := by show _ = _; rw [HC.out, Sp.rows, HR2.out]; simp [hb]
        have HF7 : Hid (RdAt w7 r s ⟨z.i, 0, a, d, z.t⟩) := by rw [hb] at hf7; exact hf7
        clear hb hf7
        go_wp2_with fail
        go_ret
        exact row_fin (d := d) (sub := Sp.choice s k) (tr := tr) HR.out HU7.out HF7.out HP7.out HK7.out
      case true =>
        have HR : Hid (Sp.rows (Sp.choice s k) s d (s.size + 1) [] ⟨i0, t0⟩ = Sp.rows (Sp.choice s k) s d fuel (ts ++ [tr]) ⟨z.i + 1, z.t⟩) := by show _ = _; rw [HQ.out, Sp.rows, HR2.out]; simp [hb]
        have HF7 : Hid (RdAt w7 r s ⟨z.i + 1, 0, a, d, z.t⟩) := by rw [hb] at hf7; exact hf7
        have hz5 := Sp.isAt_lt hb
        clear hb hf7
        go_wp2_with fail
        go_roundg fuel
        case measure => omega
        case rel => exact ⟨HU7.out, ⟨z.i + 1, z.t⟩, _, _, _, HF7.out, HP7.out, HK7.out, HR.out, by simp; omega, hz5, by simp; omega, hz3, hz4⟩

theorem choice_all : ∀ k, 1 ≤ k → k ≤ 9 → ChoiceC k
  | 0, h, _ => absurd h (by omega)
  | k + 1, _, h => choice_step k (by omega) (fun q => choice_all k q (by omega))
end Go.Proofs.YtcpfpnjkfahjcaaDoor
