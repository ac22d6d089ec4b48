import Derived.Test.YtcpfpnjkfahjcaaH40
import Derived.Test.YtcpfpnjkfahjcaaH41
set_option linter.unusedSimpArgs false
set_option linter.unusedVariables false
namespace Go.Proofs.Ytcpfpnjkfahjcaa
open Go.RowKit

theorem str_extract (S : ByteArray) (a b : Nat) : str ((S.data.toList.drop a).take (b - a)) = S.extract a b := by
  apply ByteArray.ext
  rw [ByteArray.data_extract]
  unfold str
  apply Array.ext'
  rw [Array.toList_extract]
theorem held_is {S : ByteArray} {lim i : Nat} {cu : Sp.Cu} (h : Sp.StrAt lim S.data.toList i cu) (hl : cu.len ≤ lim) : str cu.held = S.extract cu.frm i := by
  rw [← str_extract, h.held, List.take_of_length_le (by simp; omega)]
  congr 2
  have := h.sum
  omega
theorem ovr_long {S : ByteArray} {t : Tr} {lim i : Nat} {cu : Sp.Cu} (hl : lim < cu.len) : (Sp.overR (apartS t lim) cu).code = 2 ∧ (Sp.overR (apartS t lim) cu).sp = none := by
  unfold Sp.overR apartS; simp [hl]
theorem ovr_no {S : ByteArray} {t : Tr} {lim i : Nat} {cu : Sp.Cu} (h : Sp.StrAt lim S.data.toList i cu) (hl : cu.len ≤ lim) (hr : wholeS t (S.extract cu.frm i) = none) : (Sp.overR (apartS t lim) cu).code = 1 ∧ (Sp.overR (apartS t lim) cu).sp = none := by
  unfold Sp.overR apartS
  rw [held_is h hl, hr, if_neg (by omega)]
  exact ⟨rfl, rfl⟩
theorem ovr_yes {S : ByteArray} {t : Tr} {lim i : Nat} {cu : Sp.Cu} {f : Nat → Int × Int} (h : Sp.StrAt lim S.data.toList i cu) (hl : cu.len ≤ lim) (hr : wholeS t (S.extract cu.frm i) = some f) : (Sp.overR (apartS t lim) cu).code = 0 ∧ (Sp.overR (apartS t lim) cu).sp = some fun k => Sp.mv cu.frm (f k) := by
  unfold Sp.overR apartS
  rw [held_is h hl, hr, if_neg (by omega)]
  exact ⟨rfl, rfl⟩
theorem of_yes2 (p : Nat) (u : Tr) (n : Nat) (t : ByteArray) (w : World) (ht : t.size ≤ 100) (h : PatAt w p u n) {f : Nat → Int × Int} (hr : wholeS u t = some f) : Calls Try.prog 14 #[.pointer (some ⟨p, 0, none⟩), .string t] w fun e w' => ∃ g, w.heap.size ≤ g ∧ e = .returned (.tuple #[.slice (some ⟨g, 0, none⟩) (n + 1) (n + 1), .bool true]) ∧ SpansAt w' g (n + 1) f ∧ Upd [] w w' := of_yes p u n t w ht h hr
theorem ap_own {w1 w3 : World} {a b : Int} (u : Upd [] (w1.alloc (.cells #[.int .i64 a, .int .i64 b] 41)) w3) : SpO w3 w1.heap.size (.slice (some ⟨w1.heap.size, 0, none⟩) 1 1) 1 (fun _ => (a, b)) :=
  ⟨flat_length 1 _, Or.inr ⟨w1.heap.size, 1, #[.int .i64 a, .int .i64 b], rfl, Nat.le_refl _, (u.block w1.heap.size (by show w1.heap.size < (w1.heap.push _).size; simp) (by simp)).trans (heap_new rfl), Nat.le_refl _, by unfold maxLen; omega, rfl, by rw [flat_one]; rfl⟩⟩
theorem ap_same {w : World} {p n frm i : Nat} {t : Tr} {S : ByteArray} {f : Nat → Int × Int} (P : PatAt w p t n) (hf : frm ≤ i) (hi : i ≤ S.size) (h : wholeS t (S.extract frm i) = some f) : sameB (n + 1) (fun k => Sp.mv frm (f k)) (1 + n) (catF 1 (fun _ => ((frm : Int), (i : Int))) (fun k => Sp.mv frm (f (k + 1)))) = true := by
  refine (sameB_iff _ _ _ _).mpr ⟨by omega, fun k hk => ?_⟩
  unfold catF
  by_cases h0 : k = 0
  · subst h0
    rw [if_pos (by omega)]
    have e := (wholeS_some h).2
    have z := P.zero (S.extract frm i) (S.extract frm i).size
    rw [e, z, extract_size S hi]
    unfold Sp.mv
    simp
    omega
  · rw [if_neg (by omega)]
    have : k - 1 + 1 = k := by omega
    simp only [this]
/-- Behind some rounds of apart. -/
structure ApInv (w : World) (S : ByteArray) (lim : Nat) (t : Tr) (rs : List Sp.Rec) (gn : Nat) (vk vf vi : Value) (wr : World) : Prop where
  st : ∃ (i k frm : Nat), vk = .int .i64 k ∧ vf = .int .i64 frm ∧ vi = .int .i64 i ∧ i + gn = S.size + 1 ∧ Upd [] w wr ∧ k ≤ 2200000 ∧ frm ≤ i ∧ (i = S.size + 1 → k = rs.length) ∧ (i ≤ S.size → ∃ cu done, Sp.StrAt lim S.data.toList i cu ∧ cu.num = k ∧ cu.frm = frm ∧ rs = done ++ Sp.restR (apartS t lim) lim cu (S.data.toList.drop i) ∧ done.length = k)
theorem drop_cons {S : ByteArray} {i : Nat} (h : i < S.size) : S.data.toList.drop i = S[i] :: S.data.toList.drop (i + 1) := by
  have hl : i < S.data.toList.length := by rw [Array.length_toList]; exact h
  rw [List.drop_eq_getElem_cons hl]
  rfl
theorem drop_end {S : ByteArray} : S.data.toList.drop S.size = [] := by
  rw [List.drop_eq_nil_iff, Array.length_toList]; exact Nat.le_refl _
theorem ap_next {w wr : World} {S : ByteArray} {lim i k gm : Nat} {t : Tr} {rs done : List Sp.Rec} {cu : Sp.Cu} (hu : Upd [] w wr) (hi : i < S.size) (hg : i + 1 + gm = S.size + 1) (hk : k ≤ 2200000) (h1 : Sp.StrAt lim S.data.toList i cu) (h2 : cu.num = k) (h4 : rs = done ++ Sp.restR (apartS t lim) lim cu (S.data.toList.drop i)) (h5 : done.length = k) (hx : S[i] ≠ 10) : ApInv w S lim t rs gm (.int .i64 k) (.int .i64 cu.frm) (.int .i64 ((i + 1 : Nat) : Int)) wr := by
  have hs := h1.sum
  have hx' : S.data.toList[i]? = some S[i] := by rw [List.getElem?_eq_getElem (by rw [Array.length_toList]; exact hi)]; rfl
  refine ⟨i + 1, k, cu.frm, rfl, rfl, rfl, hg, hu, hk, by omega, fun q => by omega, fun _ => ⟨Sp.takeC lim cu [S[i]], done, h1.take hx', h2, rfl, ?_, h5⟩⟩
  rw [h4, drop_cons hi, Sp.restR_cons _ _ _ _ _ hx]
theorem ap_rec {w wr : World} {S : ByteArray} {lim i k gm : Nat} {t : Tr} {rs done : List Sp.Rec} {cu : Sp.Cu} (hu : Upd [] w wr) (hi : i < S.size) (hg : i + 1 + gm = S.size + 1) (hk : k < 2200000) (h1 : Sp.StrAt lim S.data.toList i cu) (h2 : cu.num = k) (h4 : rs = done ++ Sp.restR (apartS t lim) lim cu (S.data.toList.drop i)) (h5 : done.length = k) (hx : S[i] = 10) : ApInv w S lim t rs gm (.int .i64 ((k + 1 : Nat) : Int)) (.int .i64 ((i + 1 : Nat) : Int)) (.int .i64 ((i + 1 : Nat) : Int)) wr := by
  have hs := h1.sum
  refine ⟨i + 1, k + 1, i + 1, rfl, rfl, rfl, hg, hu, by omega, Nat.le_refl _, fun q => by omega, fun _ => ⟨Sp.nextC cu, done ++ [Sp.overR (apartS t lim) cu], h1.next, by simp [Sp.nextC, h2], by simp [Sp.nextC]; omega, ?_, by simp [h5]⟩⟩
  rw [h4, drop_cons hi, hx, Sp.restR_cons_nl, List.append_assoc]; rfl
theorem ap_last {w wr : World} {S : ByteArray} {lim i k gm : Nat} {t : Tr} {rs done : List Sp.Rec} {cu : Sp.Cu} (hu : Upd [] w wr) (hie : i = S.size) (hg : i + 1 + gm = S.size + 1) (hk : k < 2200000) (h4 : rs = done ++ Sp.restR (apartS t lim) lim cu (S.data.toList.drop i)) (h5 : done.length = k) (hl : cu.len ≠ 0) : ApInv w S lim t rs gm (.int .i64 ((k + 1 : Nat) : Int)) (.int .i64 ((i + 1 : Nat) : Int)) (.int .i64 ((i + 1 : Nat) : Int)) wr := by
  subst hie
  refine ⟨S.size + 1, k + 1, S.size + 1, rfl, rfl, rfl, hg, hu, by omega, Nat.le_refl _, fun _ => ?_, fun q => by omega⟩
  rw [h4, drop_end, Sp.restR_nil, Sp.closeR, if_neg hl]; simp [h5]
theorem cell_lt {w : World} {g o : Nat} {v : Value} (h : w.cell? ⟨g, o, none⟩ = some v) : g < w.heap.size := by
  rcases Nat.lt_or_ge g w.heap.size with q | q
  · exact q
  · rw [World.cell?, Array.getElem?_eq_none q] at h; cases h
/-- The record that stands here. -/
theorem ap_here {S : ByteArray} {lim i k : Nat} {t : Tr} {rs done : List Sp.Rec} {cu : Sp.Cu} (h4 : rs = done ++ Sp.restR (apartS t lim) lim cu (S.data.toList.drop i)) (h5 : done.length = k) (h : (∃ hi : i < S.size, S[i] = 10) ∨ (i = S.size ∧ cu.len ≠ 0)) : rs[k]? = some (Sp.overR (apartS t lim) cu) := by
  have : ∃ more, Sp.restR (apartS t lim) lim cu (S.data.toList.drop i) = Sp.overR (apartS t lim) cu :: more := by
    rcases h with ⟨hi, hx⟩ | ⟨rfl, hl⟩
    · rw [drop_cons hi, hx, Sp.restR_cons_nl]; exact ⟨_, rfl⟩
    · rw [drop_end, Sp.restR_nil, Sp.closeR, if_neg hl]; exact ⟨_, rfl⟩
  obtain ⟨more, e⟩ := this
  rw [h4, e, List.getElem?_append_right (by omega), h5]; simp
set_option maxRecDepth 8000 in
set_option maxHeartbeats 3200000 in
theorem apart_any (p lim b : Nat) (S : ByteArray) (t : Tr) (n : Nat) (v : Value) (rs : List Sp.Rec) (w : World) (hl : lim ≤ 100) (hS : S.size ≤ 1050000) (P : PatAt w p t n) (R : RecsAt w b v (n + 1) rs) (hrs : rs = Sp.restR (apartS t lim) lim ⟨0, 0, 0, []⟩ S.data.toList) : Calls Try.prog 29 #[.pointer (some ⟨p, 0, none⟩), .string S, .int .i64 lim, v] w fun e w' => e = .returned (.bool true) ∧ Upd [] w w' := by
  have HP : Hid (PatAt w p t n) := P
  have hRl : rs.length ≤ 1050001 := by
    have h1 := Sp.feedR_length lim (apartS t lim) S.data.toList ⟨0, 0, 0, []⟩
    have h0 : S.data.toList.length = S.size := by rw [Array.length_toList]; rfl
    rw [h0] at h1
    have h2 : (Sp.closeR (apartS t lim) (Sp.feedC lim ⟨0, 0, 0, []⟩ S.data.toList)).length ≤ 1 := by unfold Sp.closeR; split <;> simp
    rw [hrs, Sp.restR, List.length_append]; omega
  have START : Hid (ApInv w S lim t rs (S.size + 1) (.int .i64 0) (.int .i64 0) (.int .i64 0) w) := ⟨0, 0, 0, rfl, rfl, rfl, by omega, Upd.refl _ _, by omega, Nat.le_refl _, fun q => by omega, fun _ => ⟨⟨0, 0, 0, []⟩, [], Sp.StrAt.zero _ _, rfl, rfl, by rw [hrs]; rfl, rfl⟩⟩
  obtain ⟨va, ca, rfl, hca⟩ := R.slice
  have HR : Hid (RecsAt w b (.slice va rs.length ca) (n + 1) rs) := R
  obtain ⟨N, hN⟩ : ∃ N, rs.length = N := ⟨_, rfl⟩
  have HN : Hid (rs.length = N) := hN
  rw [hN]
  rw [hN] at hRl
  clear P R hrs hN hca
  go_enter Try.func29, Try.ntmps29
  go_wp2_with fail
  go_loopg [9, 10, 11] (S.size + 1) (fun gn vk vf vi wr => ApInv w S lim t rs gn vk vf vi wr)
  case atStart => exact START.out
  case round =>
    obtain ⟨i, k, frm, hvk, hvf, hvi, hi, hu, hk, hf, hend, hcu⟩ := hrel.st
    subst hvk hvf hvi
    have HU : Hid (Upd [] w wr) := hu
    clear hu
    by_cases hlt : i ≤ S.size
    · obtain ⟨gm, hgm⟩ : ∃ k, gk = k + 1 := ⟨gk - 1, by omega⟩
      obtain ⟨cu, done, c1, c2, c3, c4, c5⟩ := hcu hlt
      have hsum := c1.sum
      have C1 : Hid (Sp.StrAt lim S.data.toList i cu) := c1
      have C2 : Hid (cu.num = k) := c2
      have C3 : Hid (cu.frm = frm) := c3
      have C4 : Hid (rs = done ++ Sp.restR (apartS t lim) lim cu (S.data.toList.drop i)) := c4
      have C5 : Hid (done.length = k) := c5
      have hle : cu.len = i - frm := by omega
      have hk2 : k ≤ N := by have h1 := C5.out; have h2 := congrArg List.length C4.out; rw [List.length_append] at h2; have := HN.out; omega
      clear c1 c2 c3 c4 c5 hcu hend
      have hlt' : (i : Int) ≤ S.size := by omega
      by_cases hin : i < S.size
      · have hin' : (i : Int) < S.size := by omega
        by_cases hx : S[i] = 10
        · have hx' : (S[i].toNat : Int) = 10 := by rw [hx]; rfl
          have hne : ¬ (i : Int) = S.size := by omega
          by_cases hlong : lim < cu.len
          · have hr := ap_here C4.out C5.out (Or.inl ⟨hin, hx⟩)
            obtain ⟨gl, hva⟩ : ∃ gl, va = some ⟨gl, 0, none⟩ := by
              rcases HR.out.form with ⟨_, q⟩ | ⟨gl, cap, q, _⟩
              · rw [q] at hr; simp at hr
              · injection q with q1; exact ⟨gl, q1⟩
            subst hva
            have hkN : k < N := by
              rcases Nat.lt_or_ge k N with q | q
              · exact q
              · rw [List.getElem?_eq_none (by rw [HN.out]; exact q)] at hr; cases hr
            have hkN' : (k : Int) < N := by omega
            obtain ⟨a1, m1, RC⟩ := (HR.out.upd HU.out).get hr
            obtain ⟨x0, x1, x2, x3, x4, x5⟩ := RC
            have e0 : (((Sp.overR (apartS t lim) cu).num : Nat) : Int) = k := by show ((cu.num : Nat) : Int) = k; rw [C2.out]
            have e1 : (((Sp.overR (apartS t lim) cu).frm : Nat) : Int) = frm := by show ((cu.frm : Nat) : Int) = frm; rw [C3.out]
            have e2 : (((Sp.overR (apartS t lim) cu).len : Nat) : Int) = (i : Int) - frm := by show ((cu.len : Nat) : Int) = _; omega
            rw [e0] at x0
            rw [e1] at x1
            rw [e2] at x2
            clear e0 e1 e2
            have RL : ∀ wz, Upd [] w wz → Hid (ApInv w S lim t rs gm (.int .i64 ((k + 1 : Nat) : Int)) (.int .i64 ((i + 1 : Nat) : Int)) (.int .i64 ((i + 1 : Nat) : Int)) wz) := fun wz UU => ap_rec (gm := gm) UU hin (by omega) (by omega) C1.out C2.out C4.out C5.out hx
            have HRL : Hid (∀ wz, Upd [] w wz → Hid (ApInv w S lim t rs gm (.int .i64 ((k + 1 : Nat) : Int)) (.int .i64 ((i + 1 : Nat) : Int)) (.int .i64 ((i + 1 : Nat) : Int)) wz)) := RL
            clear RL
            obtain ⟨o1, o2⟩ := ovr_long (S := S) (i := i) (t := t) hlong
            rw [o1] at x3
            rw [o2] at x5
            obtain ⟨rfl, rfl⟩ := x5
            clear o1 o2 hr
            have hlg : ¬ (i : Int) - frm ≤ lim := by omega
            go_wp2_with fail
            refine (same_any (.slice none 0 0) (.slice none 0 0) 0 0 Sp.nowh Sp.nowh _ (SpL.nil _ _) (SpL.nil _ _) (by omega) (by omega)).mono ?_
            rintro e w2 ⟨rfl, q, rfl⟩
            rw [sameB_refl]
            have z3 : (wr.drewN q).cell? ⟨gl, k * 5 + 3, none⟩ = some (.int .i64 2) := by rw [← x3]; simp
            have HU2 : Hid (Upd [] w (wr.drewN q)) := HU.out.trans (drewN_upd [] wr q)
            generalize wr.drewN q = w3 at *
            go_wp2_with fail
            go_roundg gm
            case measure => omega
            case rel => exact (HRL.out _ HU2.out).out
          · cases hw : wholeS t (S.extract frm i) with
            | none =>
              have hno := hw
              clear hw
              have hr := ap_here C4.out C5.out (Or.inl ⟨hin, hx⟩)
              obtain ⟨gl, hva⟩ : ∃ gl, va = some ⟨gl, 0, none⟩ := by
                rcases HR.out.form with ⟨_, q⟩ | ⟨gl, cap, q, _⟩
                · rw [q] at hr; simp at hr
                · injection q with q1; exact ⟨gl, q1⟩
              subst hva
              have hkN : k < N := by
                rcases Nat.lt_or_ge k N with q | q
                · exact q
                · rw [List.getElem?_eq_none (by rw [HN.out]; exact q)] at hr; cases hr
              have hkN' : (k : Int) < N := by omega
              obtain ⟨a1, m1, RC⟩ := (HR.out.upd HU.out).get hr
              obtain ⟨x0, x1, x2, x3, x4, x5⟩ := RC
              have e0 : (((Sp.overR (apartS t lim) cu).num : Nat) : Int) = k := by show ((cu.num : Nat) : Int) = k; rw [C2.out]
              have e1 : (((Sp.overR (apartS t lim) cu).frm : Nat) : Int) = frm := by show ((cu.frm : Nat) : Int) = frm; rw [C3.out]
              have e2 : (((Sp.overR (apartS t lim) cu).len : Nat) : Int) = (i : Int) - frm := by show ((cu.len : Nat) : Int) = _; omega
              rw [e0] at x0
              rw [e1] at x1
              rw [e2] at x2
              clear e0 e1 e2
              have RL : ∀ wz, Upd [] w wz → Hid (ApInv w S lim t rs gm (.int .i64 ((k + 1 : Nat) : Int)) (.int .i64 ((i + 1 : Nat) : Int)) (.int .i64 ((i + 1 : Nat) : Int)) wz) := fun wz UU => ap_rec (gm := gm) UU hin (by omega) (by omega) C1.out C2.out C4.out C5.out hx
              have HRL : Hid (∀ wz, Upd [] w wz → Hid (ApInv w S lim t rs gm (.int .i64 ((k + 1 : Nat) : Int)) (.int .i64 ((i + 1 : Nat) : Int)) (.int .i64 ((i + 1 : Nat) : Int)) wz)) := RL
              clear RL
              obtain ⟨o1, o2⟩ := ovr_no (t := t) C1.out (by omega) (by rw [C3.out]; exact hno)
              rw [o1] at x3
              rw [o2] at x5
              obtain ⟨rfl, rfl⟩ := x5
              clear o1 o2 hr
              have hlg : (i : Int) - frm ≤ lim := by omega
              have hfi : frm ≤ i := hf
              have HNO : Hid (wholeS t (S.extract frm i) = none) := hno
              clear hno
              go_wp2_with fail
              refine (of_no p t n (S.extract frm i) _ (by rw [extract_size S hlt]; omega) (HP.out.upd HU.out) HNO.out).mono ?_
              rintro e w1 ⟨rfl, u1⟩
              have HU1 : Hid (Upd [] w w1) := HU.out.trans u1
              have hgl : gl < wr.heap.size := cell_lt x0
              have y3 := (cell_eq (u1.block gl hgl (by simp)) (k * 5 + 3)).trans x3
              have y4 := (cell_eq (u1.block gl hgl (by simp)) (k * 5 + 4)).trans x4
              clear u1 x0 x1 x2 x3 x4
              go_wp2_with fail
              refine (same_any (.slice none 0 0) (.slice none 0 0) 0 0 Sp.nowh Sp.nowh _ (SpL.nil _ _) (SpL.nil _ _) (by omega) (by omega)).mono ?_
              rintro e w2 ⟨rfl, q, rfl⟩
              rw [sameB_refl]
              have z3 : (w1.drewN q).cell? ⟨gl, k * 5 + 3, none⟩ = some (.int .i64 1) := by rw [← y3]; simp
              have HU2 : Hid (Upd [] w (w1.drewN q)) := HU1.out.trans (drewN_upd [] w1 q)
              generalize w1.drewN q = w3 at *
              go_wp2_with fail
              go_roundg gm
              case measure => omega
              case rel => exact (HRL.out _ HU2.out).out
            | some f =>
              have hyes := hw
              clear hw
              have hr := ap_here C4.out C5.out (Or.inl ⟨hin, hx⟩)
              obtain ⟨gl, hva⟩ : ∃ gl, va = some ⟨gl, 0, none⟩ := by
                rcases HR.out.form with ⟨_, q⟩ | ⟨gl, cap, q, _⟩
                · rw [q] at hr; simp at hr
                · injection q with q1; exact ⟨gl, q1⟩
              subst hva
              have hkN : k < N := by
                rcases Nat.lt_or_ge k N with q | q
                · exact q
                · rw [List.getElem?_eq_none (by rw [HN.out]; exact q)] at hr; cases hr
              have hkN' : (k : Int) < N := by omega
              obtain ⟨a1, m1, RC⟩ := (HR.out.upd HU.out).get hr
              obtain ⟨x0, x1, x2, x3, x4, x5⟩ := RC
              have e0 : (((Sp.overR (apartS t lim) cu).num : Nat) : Int) = k := by show ((cu.num : Nat) : Int) = k; rw [C2.out]
              have e1 : (((Sp.overR (apartS t lim) cu).frm : Nat) : Int) = frm := by show ((cu.frm : Nat) : Int) = frm; rw [C3.out]
              have e2 : (((Sp.overR (apartS t lim) cu).len : Nat) : Int) = (i : Int) - frm := by show ((cu.len : Nat) : Int) = _; omega
              rw [e0] at x0
              rw [e1] at x1
              rw [e2] at x2
              clear e0 e1 e2
              have RL : ∀ wz, Upd [] w wz → Hid (ApInv w S lim t rs gm (.int .i64 ((k + 1 : Nat) : Int)) (.int .i64 ((i + 1 : Nat) : Int)) (.int .i64 ((i + 1 : Nat) : Int)) wz) := fun wz UU => ap_rec (gm := gm) UU hin (by omega) (by omega) C1.out C2.out C4.out C5.out hx
              have HRL : Hid (∀ wz, Upd [] w wz → Hid (ApInv w S lim t rs gm (.int .i64 ((k + 1 : Nat) : Int)) (.int .i64 ((i + 1 : Nat) : Int)) (.int .i64 ((i + 1 : Nat) : Int)) wz)) := RL
              clear RL
              obtain ⟨o1, o2⟩ := ovr_yes (t := t) C1.out (by omega) (by rw [C3.out]; exact hyes)
              rw [o1] at x3
              rw [o2] at x5
              rw [C3.out] at x5
              obtain ⟨q1, rfl, rfl, sp1⟩ := x5
              have SP1 : Hid (SpansAt wr q1 (n + 1) (fun k => Sp.mv frm (f k))) := sp1
              clear o1 o2 hr sp1
              have hlg : (i : Int) - frm ≤ lim := by omega
              have hfi : frm ≤ i := hf
              have HYES : Hid (wholeS t (S.extract frm i) = some f) := hyes
              have hn9 : n ≤ 9 := HP.out.1
              clear hyes
              go_wp2_with fail
              refine (of_yes2 p t n (S.extract frm i) _ (by rw [extract_size S hlt]; omega) (HP.out.upd HU.out) HYES.out).mono ?_
              rintro e w1 ⟨g1, hg1, rfl, s1, u1⟩
              have HU1 : Hid (Upd [] w w1) := HU.out.trans u1
              have hgl : gl < wr.heap.size := cell_lt x0
              have y3 := (cell_eq (u1.block gl hgl (by simp)) (k * 5 + 3)).trans x3
              have y4 := (cell_eq (u1.block gl hgl (by simp)) (k * 5 + 4)).trans x4
              have hgl1 : gl < w1.heap.size := Nat.lt_of_lt_of_le hgl u1.size
              have S1 : Hid (SpansAt w1 g1 (n + 1) f) := s1
              have SP2 : Hid (SpansAt w1 q1 (n + 1) (fun k => Sp.mv frm (f k))) := (u1.block q1 (lt_of_heap SP1.out) (by simp)).trans SP1.out
              clear u1 x0 x1 x2 x3 x4 s1 hg1 hgl
              go_wp2_with fail
              have S1a : Hid (SpL (w1.alloc (.cells #[.int .i64 frm, .int .i64 i] 41)) (.slice (some ⟨g1, 0, none⟩) (n + 1) (n + 1)) (n + 1) f) := SpansAt.own ((Below.heap_alloc _ _ _ (lt_of_heap S1.out)).trans S1.out) (by omega)
              refine (moved_any (.slice (some ⟨g1, 0, none⟩) (n + 1) (n + 1)) (n + 1) frm f _ S1a.out (by omega) (by omega) (fun k _ => wholeS_bd (by rw [extract_size S hlt]; omega) HYES.out k)).mono ?_
              rintro e w3 ⟨v3, rfl, so, u3⟩
              have HO : Hid (SpO w3 w1.heap.size (.slice (some ⟨w1.heap.size, 0, none⟩) 1 1) 1 (fun _ => ((frm : Int), (i : Int)))) := ap_own u3
              have HSO : Hid (SpL w3 v3 n (fun k => Sp.mv frm (f (k + 1)))) := (SpO.congr so (by omega) (fun _ _ => rfl)).l
              have U13 : Hid (Upd [] w1 w3) := (Upd.alloc (Upd.refl _ _) _).trans u3
              have hz3 : w1.heap.size ≤ w3.heap.size := U13.out.size
              clear so u3 S1a
              go_wp2_with (first | (at_builtin; refine wpList_append_sp rfl _ _ rfl w1.heap.size (.slice (some ⟨w1.heap.size, 0, none⟩) 1 1) 1 (fun _ => ((frm : Int), (i : Int))) rfl HO.out v3 n (fun k => Sp.mv frm (f (k + 1))) rfl HSO.out ?c1 ?c2 ?_) | fail)
              case c1 => omega
              case c2 => exact hz3
              intro v5 w5 hown5 hgrow
              have u15 : Upd [] w1 w5 := grown_ups (Nat.le_refl _) U13.out HO.out hgrow
              have HU5 : Hid (Upd [] w w5) := HU1.out.trans u15
              have H5 : Hid (SpL w5 v5 (1 + n) (catF 1 (fun _ => ((frm : Int), (i : Int))) (fun k => Sp.mv frm (f (k + 1))))) := hown5.l
              have SP5 : Hid (SpL w5 (.slice (some ⟨q1, 0, none⟩) (n + 1) (n + 1)) (n + 1) (fun k => Sp.mv frm (f k))) := SpansAt.own ((u15.block q1 (lt_of_heap SP2.out) (by simp)).trans SP2.out) (by omega)
              have t3 := (cell_eq (u15.block gl hgl1 (by simp)) (k * 5 + 3)).trans y3
              have t4 := (cell_eq (u15.block gl hgl1 (by simp)) (k * 5 + 4)).trans y4
              have HSM : Hid (sameB (n + 1) (fun k => Sp.mv frm (f k)) (1 + n) (catF 1 (fun _ => ((frm : Int), (i : Int))) (fun k => Sp.mv frm (f (k + 1)))) = true) := ap_same HP.out hfi hlt HYES.out
              clear y3 y4 hown5 hgrow u15
              go_wp2_with fail
              refine (same_any (.slice (some ⟨q1, 0, none⟩) (n + 1) (n + 1)) v5 (n + 1) (1 + n) _ _ _ SP5.out H5.out (by omega) (by omega)).mono ?_
              rintro e w6 ⟨rfl, q, rfl⟩
              rw [HSM.out]
              have z3 : (w5.drewN q).cell? ⟨gl, k * 5 + 3, none⟩ = some (.int .i64 0) := by rw [← t3]; simp
              have HU2 : Hid (Upd [] w (w5.drewN q)) := HU5.out.trans (drewN_upd [] w5 q)
              generalize w5.drewN q = w3 at *
              go_wp2_with fail
              go_roundg gm
              case measure => omega
              case rel => exact (HRL.out _ HU2.out).out
        · have hx' : ¬ (S[i].toNat : Int) = 10 := by
            intro q
            apply hx
            have : S[i].toNat = 10 := by omega
            exact UInt8.toNat.inj this
          have RL : Hid (ApInv w S lim t rs gm (.int .i64 k) (.int .i64 frm) (.int .i64 ((i + 1 : Nat) : Int)) wr) := by
            have := ap_next (gm := gm) HU.out hin (by omega) hk C1.out C2.out C4.out C5.out hx
            rw [C3.out] at this; exact this
          go_wp2_with fail
          go_roundg gm
          case measure => omega
          case rel => exact RL.out
      · have hie : i = S.size := by omega
        have hin' : ¬ (i : Int) < S.size := by omega
        have hie' : (i : Int) = S.size := by omega
        by_cases h0 : frm = i
        · have h0' : (frm : Int) = i := by omega
          have hz : Hid (rs.length = k) := by
            show _ = _
            rw [C4.out, hie, drop_end, Sp.restR_nil, Sp.closeR, if_pos (by omega)]; simp [C5.out]
          have hkN : k = N := by have := hz.out; have := HN.out; omega
          have hkN' : (k : Int) = N := by omega
          go_wp2_with fail
          go_ret
          exact ⟨by simp [hkN], HU.out⟩
        · have h0' : ¬ (frm : Int) = i := by omega
          by_cases hlong : lim < cu.len
          · have hr := ap_here C4.out C5.out (Or.inr ⟨hie, by omega⟩)
            obtain ⟨gl, hva⟩ : ∃ gl, va = some ⟨gl, 0, none⟩ := by
              rcases HR.out.form with ⟨_, q⟩ | ⟨gl, cap, q, _⟩
              · rw [q] at hr; simp at hr
              · injection q with q1; exact ⟨gl, q1⟩
            subst hva
            have hkN : k < N := by
              rcases Nat.lt_or_ge k N with q | q
              · exact q
              · rw [List.getElem?_eq_none (by rw [HN.out]; exact q)] at hr; cases hr
            have hkN' : (k : Int) < N := by omega
            obtain ⟨a1, m1, RC⟩ := (HR.out.upd HU.out).get hr
            obtain ⟨x0, x1, x2, x3, x4, x5⟩ := RC
            have e0 : (((Sp.overR (apartS t lim) cu).num : Nat) : Int) = k := by show ((cu.num : Nat) : Int) = k; rw [C2.out]
            have e1 : (((Sp.overR (apartS t lim) cu).frm : Nat) : Int) = frm := by show ((cu.frm : Nat) : Int) = frm; rw [C3.out]
            have e2 : (((Sp.overR (apartS t lim) cu).len : Nat) : Int) = (i : Int) - frm := by show ((cu.len : Nat) : Int) = _; omega
            rw [e0] at x0
            rw [e1] at x1
            rw [e2] at x2
            clear e0 e1 e2
            have RL : ∀ wz, Upd [] w wz → Hid (ApInv w S lim t rs gm (.int .i64 ((k + 1 : Nat) : Int)) (.int .i64 ((i + 1 : Nat) : Int)) (.int .i64 ((i + 1 : Nat) : Int)) wz) := fun wz UU => ap_last (gm := gm) UU hie (by omega) (by omega) C4.out C5.out (by omega)
            have HRL : Hid (∀ wz, Upd [] w wz → Hid (ApInv w S lim t rs gm (.int .i64 ((k + 1 : Nat) : Int)) (.int .i64 ((i + 1 : Nat) : Int)) (.int .i64 ((i + 1 : Nat) : Int)) wz)) := RL
            clear RL
            obtain ⟨o1, o2⟩ := ovr_long (S := S) (i := i) (t := t) hlong
            rw [o1] at x3
            rw [o2] at x5
            obtain ⟨rfl, rfl⟩ := x5
            clear o1 o2 hr
            have hlg : ¬ (i : Int) - frm ≤ lim := by omega
            go_wp2_with fail
            refine (same_any (.slice none 0 0) (.slice none 0 0) 0 0 Sp.nowh Sp.nowh _ (SpL.nil _ _) (SpL.nil _ _) (by omega) (by omega)).mono ?_
            rintro e w2 ⟨rfl, q, rfl⟩
            rw [sameB_refl]
            have z3 : (wr.drewN q).cell? ⟨gl, k * 5 + 3, none⟩ = some (.int .i64 2) := by rw [← x3]; simp
            have HU2 : Hid (Upd [] w (wr.drewN q)) := HU.out.trans (drewN_upd [] wr q)
            generalize wr.drewN q = w3 at *
            go_wp2_with fail
            go_roundg gm
            case measure => omega
            case rel => have z := (HRL.out _ HU2.out).out; rw [hie] at z; exact z
          · cases hw : wholeS t (S.extract frm i) with
            | none =>
              have hno := hw
              clear hw
              have hr := ap_here C4.out C5.out (Or.inr ⟨hie, by omega⟩)
              obtain ⟨gl, hva⟩ : ∃ gl, va = some ⟨gl, 0, none⟩ := by
                rcases HR.out.form with ⟨_, q⟩ | ⟨gl, cap, q, _⟩
                · rw [q] at hr; simp at hr
                · injection q with q1; exact ⟨gl, q1⟩
              subst hva
              have hkN : k < N := by
                rcases Nat.lt_or_ge k N with q | q
                · exact q
                · rw [List.getElem?_eq_none (by rw [HN.out]; exact q)] at hr; cases hr
              have hkN' : (k : Int) < N := by omega
              obtain ⟨a1, m1, RC⟩ := (HR.out.upd HU.out).get hr
              obtain ⟨x0, x1, x2, x3, x4, x5⟩ := RC
              have e0 : (((Sp.overR (apartS t lim) cu).num : Nat) : Int) = k := by show ((cu.num : Nat) : Int) = k; rw [C2.out]
              have e1 : (((Sp.overR (apartS t lim) cu).frm : Nat) : Int) = frm := by show ((cu.frm : Nat) : Int) = frm; rw [C3.out]
              have e2 : (((Sp.overR (apartS t lim) cu).len : Nat) : Int) = (i : Int) - frm := by show ((cu.len : Nat) : Int) = _; omega
              rw [e0] at x0
              rw [e1] at x1
              rw [e2] at x2
              clear e0 e1 e2
              have RL : ∀ wz, Upd [] w wz → Hid (ApInv w S lim t rs gm (.int .i64 ((k + 1 : Nat) : Int)) (.int .i64 ((i + 1 : Nat) : Int)) (.int .i64 ((i + 1 : Nat) : Int)) wz) := fun wz UU => ap_last (gm := gm) UU hie (by omega) (by omega) C4.out C5.out (by omega)
              have HRL : Hid (∀ wz, Upd [] w wz → Hid (ApInv w S lim t rs gm (.int .i64 ((k + 1 : Nat) : Int)) (.int .i64 ((i + 1 : Nat) : Int)) (.int .i64 ((i + 1 : Nat) : Int)) wz)) := RL
              clear RL
              obtain ⟨o1, o2⟩ := ovr_no (t := t) C1.out (by omega) (by rw [C3.out]; exact hno)
              rw [o1] at x3
              rw [o2] at x5
              obtain ⟨rfl, rfl⟩ := x5
              clear o1 o2 hr
              have hlg : (i : Int) - frm ≤ lim := by omega
              have hfi : frm ≤ i := hf
              have HNO : Hid (wholeS t (S.extract frm S.size) = none) := hie ▸ hno
              clear hno
              go_wp2_with fail
              refine (of_no p t n (S.extract frm S.size) _ (by rw [extract_size S (Nat.le_refl _)]; omega) (HP.out.upd HU.out) HNO.out).mono ?_
              rintro e w1 ⟨rfl, u1⟩
              have HU1 : Hid (Upd [] w w1) := HU.out.trans u1
              have hgl : gl < wr.heap.size := cell_lt x0
              have y3 := (cell_eq (u1.block gl hgl (by simp)) (k * 5 + 3)).trans x3
              have y4 := (cell_eq (u1.block gl hgl (by simp)) (k * 5 + 4)).trans x4
              clear u1 x0 x1 x2 x3 x4
              go_wp2_with fail
              refine (same_any (.slice none 0 0) (.slice none 0 0) 0 0 Sp.nowh Sp.nowh _ (SpL.nil _ _) (SpL.nil _ _) (by omega) (by omega)).mono ?_
              rintro e w2 ⟨rfl, q, rfl⟩
              rw [sameB_refl]
              have z3 : (w1.drewN q).cell? ⟨gl, k * 5 + 3, none⟩ = some (.int .i64 1) := by rw [← y3]; simp
              have HU2 : Hid (Upd [] w (w1.drewN q)) := HU1.out.trans (drewN_upd [] w1 q)
              generalize w1.drewN q = w3 at *
              go_wp2_with fail
              go_roundg gm
              case measure => omega
              case rel => have z := (HRL.out _ HU2.out).out; rw [hie] at z; exact z
            | some f =>
              have hyes := hw
              clear hw
              have hr := ap_here C4.out C5.out (Or.inr ⟨hie, by omega⟩)
              obtain ⟨gl, hva⟩ : ∃ gl, va = some ⟨gl, 0, none⟩ := by
                rcases HR.out.form with ⟨_, q⟩ | ⟨gl, cap, q, _⟩
                · rw [q] at hr; simp at hr
                · injection q with q1; exact ⟨gl, q1⟩
              subst hva
              have hkN : k < N := by
                rcases Nat.lt_or_ge k N with q | q
                · exact q
                · rw [List.getElem?_eq_none (by rw [HN.out]; exact q)] at hr; cases hr
              have hkN' : (k : Int) < N := by omega
              obtain ⟨a1, m1, RC⟩ := (HR.out.upd HU.out).get hr
              obtain ⟨x0, x1, x2, x3, x4, x5⟩ := RC
              have e0 : (((Sp.overR (apartS t lim) cu).num : Nat) : Int) = k := by show ((cu.num : Nat) : Int) = k; rw [C2.out]
              have e1 : (((Sp.overR (apartS t lim) cu).frm : Nat) : Int) = frm := by show ((cu.frm : Nat) : Int) = frm; rw [C3.out]
              have e2 : (((Sp.overR (apartS t lim) cu).len : Nat) : Int) = (i : Int) - frm := by show ((cu.len : Nat) : Int) = _; omega
              rw [e0] at x0
              rw [e1] at x1
              rw [e2] at x2
              clear e0 e1 e2
              have RL : ∀ wz, Upd [] w wz → Hid (ApInv w S lim t rs gm (.int .i64 ((k + 1 : Nat) : Int)) (.int .i64 ((i + 1 : Nat) : Int)) (.int .i64 ((i + 1 : Nat) : Int)) wz) := fun wz UU => ap_last (gm := gm) UU hie (by omega) (by omega) C4.out C5.out (by omega)
              have HRL : Hid (∀ wz, Upd [] w wz → Hid (ApInv w S lim t rs gm (.int .i64 ((k + 1 : Nat) : Int)) (.int .i64 ((i + 1 : Nat) : Int)) (.int .i64 ((i + 1 : Nat) : Int)) wz)) := RL
              clear RL
              obtain ⟨o1, o2⟩ := ovr_yes (t := t) C1.out (by omega) (by rw [C3.out]; exact hyes)
              rw [o1] at x3
              rw [o2] at x5
              rw [C3.out] at x5
              obtain ⟨q1, rfl, rfl, sp1⟩ := x5
              have SP1 : Hid (SpansAt wr q1 (n + 1) (fun k => Sp.mv frm (f k))) := sp1
              clear o1 o2 hr sp1
              have hlg : (i : Int) - frm ≤ lim := by omega
              have hfi : frm ≤ i := hf
              have HYES : Hid (wholeS t (S.extract frm S.size) = some f) := hie ▸ hyes
              have hn9 : n ≤ 9 := HP.out.1
              clear hyes
              go_wp2_with fail
              refine (of_yes2 p t n (S.extract frm S.size) _ (by rw [extract_size S (Nat.le_refl _)]; omega) (HP.out.upd HU.out) HYES.out).mono ?_
              rintro e w1 ⟨g1, hg1, rfl, s1, u1⟩
              have HU1 : Hid (Upd [] w w1) := HU.out.trans u1
              have hgl : gl < wr.heap.size := cell_lt x0
              have y3 := (cell_eq (u1.block gl hgl (by simp)) (k * 5 + 3)).trans x3
              have y4 := (cell_eq (u1.block gl hgl (by simp)) (k * 5 + 4)).trans x4
              have hgl1 : gl < w1.heap.size := Nat.lt_of_lt_of_le hgl u1.size
              have S1 : Hid (SpansAt w1 g1 (n + 1) f) := s1
              have SP2 : Hid (SpansAt w1 q1 (n + 1) (fun k => Sp.mv frm (f k))) := (u1.block q1 (lt_of_heap SP1.out) (by simp)).trans SP1.out
              clear u1 x0 x1 x2 x3 x4 s1 hg1 hgl
              go_wp2_with fail
              have S1a : Hid (SpL (w1.alloc (.cells #[.int .i64 frm, .int .i64 S.size] 41)) (.slice (some ⟨g1, 0, none⟩) (n + 1) (n + 1)) (n + 1) f) := SpansAt.own ((Below.heap_alloc _ _ _ (lt_of_heap S1.out)).trans S1.out) (by omega)
              refine (moved_any (.slice (some ⟨g1, 0, none⟩) (n + 1) (n + 1)) (n + 1) frm f _ S1a.out (by omega) (by omega) (fun k _ => wholeS_bd (by rw [extract_size S (Nat.le_refl _)]; omega) HYES.out k)).mono ?_
              rintro e w3 ⟨v3, rfl, so, u3⟩
              have HO : Hid (SpO w3 w1.heap.size (.slice (some ⟨w1.heap.size, 0, none⟩) 1 1) 1 (fun _ => ((frm : Int), (S.size : Int)))) := ap_own u3
              have HSO : Hid (SpL w3 v3 n (fun k => Sp.mv frm (f (k + 1)))) := (SpO.congr so (by omega) (fun _ _ => rfl)).l
              have U13 : Hid (Upd [] w1 w3) := (Upd.alloc (Upd.refl _ _) _).trans u3
              have hz3 : w1.heap.size ≤ w3.heap.size := U13.out.size
              clear so u3 S1a
              go_wp2_with (first | (at_builtin; refine wpList_append_sp rfl _ _ rfl w1.heap.size (.slice (some ⟨w1.heap.size, 0, none⟩) 1 1) 1 (fun _ => ((frm : Int), (S.size : Int))) rfl HO.out v3 n (fun k => Sp.mv frm (f (k + 1))) rfl HSO.out ?c1 ?c2 ?_) | fail)
              case c1 => omega
              case c2 => exact hz3
              intro v5 w5 hown5 hgrow
              have u15 : Upd [] w1 w5 := grown_ups (Nat.le_refl _) U13.out HO.out hgrow
              have HU5 : Hid (Upd [] w w5) := HU1.out.trans u15
              have H5 : Hid (SpL w5 v5 (1 + n) (catF 1 (fun _ => ((frm : Int), (S.size : Int))) (fun k => Sp.mv frm (f (k + 1))))) := hown5.l
              have SP5 : Hid (SpL w5 (.slice (some ⟨q1, 0, none⟩) (n + 1) (n + 1)) (n + 1) (fun k => Sp.mv frm (f k))) := SpansAt.own ((u15.block q1 (lt_of_heap SP2.out) (by simp)).trans SP2.out) (by omega)
              have t3 := (cell_eq (u15.block gl hgl1 (by simp)) (k * 5 + 3)).trans y3
              have t4 := (cell_eq (u15.block gl hgl1 (by simp)) (k * 5 + 4)).trans y4
              have HSM : Hid (sameB (n + 1) (fun k => Sp.mv frm (f k)) (1 + n) (catF 1 (fun _ => ((frm : Int), (S.size : Int))) (fun k => Sp.mv frm (f (k + 1)))) = true) := ap_same HP.out (hie ▸ hfi) (Nat.le_refl _) HYES.out
              clear y3 y4 hown5 hgrow u15
              go_wp2_with fail
              refine (same_any (.slice (some ⟨q1, 0, none⟩) (n + 1) (n + 1)) v5 (n + 1) (1 + n) _ _ _ SP5.out H5.out (by omega) (by omega)).mono ?_
              rintro e w6 ⟨rfl, q, rfl⟩
              rw [HSM.out]
              have z3 : (w5.drewN q).cell? ⟨gl, k * 5 + 3, none⟩ = some (.int .i64 0) := by rw [← t3]; simp
              have HU2 : Hid (Upd [] w (w5.drewN q)) := HU5.out.trans (drewN_upd [] w5 q)
              generalize w5.drewN q = w3 at *
              go_wp2_with fail
              go_roundg gm
              case measure => omega
              case rel => have z := (HRL.out _ HU2.out).out; rw [hie] at z; exact z
    · have hz : k = N := by have := hend (by omega); have := HN.out; omega
      have hlt' : ¬ (i : Int) ≤ S.size := by omega
      have hkN' : (k : Int) = N := by omega
      go_wp2_with fail
      go_ret
      exact ⟨by simp [hz], HU.out⟩
end Go.Proofs.Ytcpfpnjkfahjcaa
