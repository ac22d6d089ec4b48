import Derived.Test.YtcpfpnjkfahjcaaGreatH51
set_option linter.unusedSimpArgs false
set_option linter.unusedVariables false
namespace Go.Proofs.YtcpfpnjkfahjcaaGreat
open Go.RowKit

set_option maxRecDepth 8000 in
set_option maxHeartbeats 3200000 in
theorem lMatches_no (s : ByteArray) (ad : Option Addr) (b0 off len cap : Nat) (ss : Nat → ByteArray) (w : World) (hlen : len ≤ 1048576) (hlc : len ≤ cap) (ha : 0 < len → ad = some ⟨b0, off, none⟩) (hb0 : 0 < len → b0 < w.heap.size) (hcs : ∀ j, j < len → w.cell? ⟨b0, off + j, none⟩ = some (.string (ss j))) (e1 a1 : Int) (hr : Sp.read s = .error (e1, a1)) : Calls Tryz.prog 3 #[.string s, .slice ad len cap] w fun e w' => e = .returned (.bool true) ∧ Upd [] w w' := by
  have HA : Hid (0 < len → ad = some ⟨b0, off, none⟩) := ha
  have HB0 : Hid (0 < len → b0 < w.heap.size) := hb0
  have HCS : Hid (∀ j, j < len → w.cell? ⟨b0, off + j, none⟩ = some (.string (ss j))) := hcs
  clear ha hb0 hcs
  have HR : Hid (Sp.read s = .error (e1, a1)) := hr
  clear hr
  go_enter Tryz.func3, Tryz.ntmps3
  go_wp2_with fail
  refine (lmatches_any w).mono ?_
  rintro e w1 ⟨rfl, u1⟩
  have U1 : Hid (Upd [] w w1) := u1
  clear u1
  go_wp2_with fail
  refine (sComp_no s e1 a1 _ HR.out).mono ?_
  rintro e w2 ⟨rfl, u2⟩
  have U2 : Hid (Upd [] w w2) := U1.out.trans u2
  clear u2
  go_wp2_with fail
  refine (rComp_no s e1 a1 _ HR.out).mono ?_
  rintro e w3 ⟨rfl, u3⟩
  have U3 : Hid (Upd [] w w3) := U2.out.trans u3
  obtain ⟨st, hst⟩ : ∃ st : Option (Tr × Nat), st = none := ⟨_, rfl⟩
  have HP : Hid (PatSt w3 none st) := by show PatSt _ _ _; rw [hst]; rfl
  have HQ : Hid (RefSt w3 none s st) := by show RefSt _ _ _ _; rw [hst]; rfl
  have HST : Hid (∀ t n, st = some (t, n) → n ≤ 9) := fun t' n' e => by rw [hst] at e; cases e
  clear u3 hst
  have HB4 : Hid (BkAt w3 (w3.alloc (.cells #[.int .i64 0, .slice none 0 0, .slice none 0 0, .slice none 0 0, .slice none 0 0] 36)) w3.heap.size 0 0 (.slice none 0 0) (.slice none 0 0) (.slice none 0 0) (.slice none 0 0) []) := BkAt.new w3
  go_wp2_with fail

  generalize hb : w3.heap.size = b at *
  go_loopg [13] len (fun gn vi wr => MhInv w3 b len gn vi wr)
  case atStart => exact ⟨0, _, _, [], rfl, by omega, HB4.out⟩
  case round =>
    obtain ⟨c, vS, vN, es, hvi, hcg, hB⟩ := hrel.st
    subst hvi
    have HB : Hid (BkAt w3 wr b (8 * c) (2 * c : Nat) vS vN (.slice none 0 0) (.slice none 0 0) es) := hB
    have UWR : Hid (Upd [] w wr) := U3.out.trans hB.up
    clear hB hrel
    by_cases hlt : c < len
    · have hlt' : (c : Int) < len := by omega
      obtain ⟨gm, hgm⟩ : ∃ x, gk = x + 1 := ⟨gk - 1, by omega⟩
      have had := HA.out (by omega)
      subst had
      have ck : wr.cell? ⟨b0, off + c, none⟩ = some (.string (ss c)) := (cell_eq (UWR.out.block b0 (HB0.out (by omega)) (by simp)) _).trans (HCS.out c hlt)
      go_wp2_with fail
      refine (sMatch_res none st (ss c) _ (HP.out.upd HB.out.up)).mono ?_
      rintro e w5 ⟨v5, rfl, o5, u5⟩
      have HO5 : Hid (SpO w5 wr.heap.size v5 (mRes st (ss c)).1 (mRes st (ss c)).2.1) := o5
      have U5 : Hid (Upd [] wr w5) := u5
      have ck5 : w5.cell? ⟨b0, off + c, none⟩ = some (.string (ss c)) := (cell_eq ((UWR.out.trans u5).block b0 (HB0.out (by omega)) (by simp)) _).trans (HCS.out c hlt)
      clear o5 u5
      go_wp2_with fail
      refine (rMatch_res none s st (ss c) _ (HQ.out.upd (HB.out.up.trans U5.out))).mono ?_
      rintro e w6 ⟨v6, rfl, o6, u6⟩
      have HO6 : Hid (SpO w6 wr.heap.size v5 (mRes st (ss c)).1 (mRes st (ss c)).2.1) := HO5.out.upd u6 (by simp)
      have HQ6 : Hid (SpL w6 v6 (mRes st (ss c)).1 (mRes st (ss c)).2.1) := o6.l
      have U6 : Hid (Upd [] wr w6) := U5.out.trans u6
      clear o6 u6
      go_wp2_with fail
      refine (same_any v5 v6 _ _ _ _ _ HO6.out.l HQ6.out (by have := mRes_le st (ss c) HST.out; omega) (by have := mRes_le st (ss c) HST.out; omega)).mono ?_
      rintro e w7 ⟨rfl, q7, rfl⟩
      rw [sameB_self]
      have HO7 : Hid (SpO (w6.drewN q7) wr.heap.size v5 (mRes st (ss c)).1 (mRes st (ss c)).2.1) := HO6.out.upd (drewN_upd [] _ _) (by simp)
      have U7 : Hid (Upd [] wr (w6.drewN q7)) := U6.out.trans (drewN_upd [] _ _)
      generalize w6.drewN q7 = w7 at *
      go_wp2_with fail
      refine (bSpans_any w3 b (8 * c) (2 * c : Nat) vS vN _ _ es wr _ v5 _ _ HB.out U7.out HO7.out (mRes_le st (ss c) HST.out) (by omega) ⟨by omega, by omega⟩).mono ?_
      rintro e w8 ⟨xS, xN, es8, rfl, B8⟩
      have HB8 : Hid (BkAt w3 w8 b (8 * c + 4) ((2 * c : Nat) + 1) xS xN (.slice none 0 0) (.slice none 0 0) es8) := B8
      have ck8 : w8.cell? ⟨b0, off + c, none⟩ = some (.string (ss c)) := (cell_eq ((U3.out.trans B8.up).block b0 (HB0.out (by omega)) (by simp)) _).trans (HCS.out c hlt)
      clear B8
      go_wp2_with fail
      refine (sLongest_res none st (ss c) _ (HP.out.upd HB8.out.up)).mono ?_
      rintro e w9 ⟨v9, rfl, o9, u9⟩
      have HO9 : Hid (SpO w9 w8.heap.size v9 (lRes st (ss c)).2.1 (lRes st (ss c)).2.2.1) := o9
      have U9 : Hid (Upd [] w8 w9) := u9
      have ck9 : w9.cell? ⟨b0, off + c, none⟩ = some (.string (ss c)) := (cell_eq (u9.block b0 (by have := HB0.out (by omega); have := U3.out.size; have := HB8.out.up.size; omega) (by simp)) _).trans ck8
      clear o9 u9
      go_wp2_with fail
      refine (rLongest_res none s st (ss c) _ (HQ.out.upd (HB8.out.up.trans U9.out))).mono ?_
      rintro e w10 ⟨v10, rfl, o10, u10⟩
      have HO10 : Hid (SpO w10 w8.heap.size v9 (lRes st (ss c)).2.1 (lRes st (ss c)).2.2.1) := HO9.out.upd u10 (by simp)
      have HQ10 : Hid (SpL w10 v10 (lRes st (ss c)).2.1 (lRes st (ss c)).2.2.1) := o10.l
      have U10 : Hid (Upd [] w8 w10) := U9.out.trans u10
      clear o10 u10
      go_wp2_with fail
      refine (same_any v9 v10 _ _ _ _ _ HO10.out.l HQ10.out (by have := lRes_le st (ss c) HST.out; omega) (by have := lRes_le st (ss c) HST.out; omega)).mono ?_
      rintro e w11 ⟨rfl, q11, rfl⟩
      rw [sameB_self]
      have HO11 : Hid (SpO (w10.drewN q11) w8.heap.size v9 (lRes st (ss c)).2.1 (lRes st (ss c)).2.2.1) := HO10.out.upd (drewN_upd [] _ _) (by simp)
      have U11 : Hid (Upd [] w8 (w10.drewN q11)) := U10.out.trans (drewN_upd [] _ _)
      generalize w10.drewN q11 = w11 at *
      go_wp2_with fail
      refine (bSpans_any w3 b (8 * c + 4) ((2 * c : Nat) + 1) xS xN _ _ es8 w8 _ v9 _ _ HB8.out U11.out HO11.out (lRes_le st (ss c) HST.out) (by omega) ⟨by omega, by omega⟩).mono ?_
      rintro e w12 ⟨yS, yN, es12, rfl, B12⟩
      have HB12 : Hid (BkAt w3 w12 b (8 * (c + 1)) (2 * (c + 1) : Nat) yS yN (.slice none 0 0) (.slice none 0 0) es12) := by
        have e1 : 8 * c + 4 + 4 = 8 * (c + 1) := by omega
        have e2 : ((2 * c : Nat) : Int) + 1 + 1 = ((2 * (c + 1) : Nat) : Int) := by omega
        rw [e1, e2] at B12; exact B12
      clear B12
      go_wp2_with fail
      refine (bStill_any w3 _ b (8 * (c + 1)) _ yS yN _ es12 HB12.out (by omega)).mono ?_
      rintro e w13 ⟨rfl, u13⟩
      have RL : Hid (MhInv w3 b len gm (.int .i64 ((c + 1 : Nat) : Int)) w13) := ⟨c + 1, yS, yN, es12, rfl, by omega, HB12.out.upd u13⟩
      clear u13
      go_wp2_with fail
      go_roundg gm
      case measure => omega
      case rel => exact RL.out
    · have hlt' : ¬ (c : Int) < len := by omega
      go_wp2_with fail
      go_ret
      exact ⟨rfl, UWR.out⟩
end Go.Proofs.YtcpfpnjkfahjcaaGreat
