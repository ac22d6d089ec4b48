import Derived.Test.YtcpfpnjkfahjcaaH42
import Derived.Test.YtcpfpnjkfahjcaaH43
set_option linter.unusedSimpArgs false
set_option linter.unusedVariables false
namespace Go.Proofs.Ytcpfpnjkfahjcaa
open Go.RowKit

def cu0 : Sp.Cu := ⟨0, 0, 0, []⟩
/-- The numbers of the cuts, as they lie. -/
structure CutsAt (w : World) (ad : Option Addr) (b off len cap : Nat) (cs : Nat → Int) : Prop where
  ad : 0 < len → ad = some ⟨b, off, none⟩
  lt : 0 < len → b < w.heap.size
  cells : ∀ j, j < len → w.cell? ⟨b, off + j, none⟩ = some (.int .i64 (cs j))
  bd : ∀ j, j < len → -9223372036854775808 ≤ cs j ∧ cs j ≤ 9223372036854775807
/-- Behind some rounds of Cut. -/
structure CtInv (w0 : World) (S : ByteArray) (t : Tr) (n p lim sy cy B bg ball len : Nat) (vall : Value) (gn : Nat) (vgot vat vopen vk : Value) (wr : World) : Prop where
  st : ∃ (k a : Nat), vk = .int .i64 k ∧ vat = .int .i64 a ∧ vopen = .int .i64 (Sp.openL 0 (S.data.toList.take a) : Nat) ∧ k + gn = len + 1 ∧ a ≤ S.size ∧ (k = len + 1 → a = S.size) ∧ RecsAt wr bg vgot (n + 1) (Sp.feedR (apartS t lim) lim cu0 (S.data.toList.take a)) ∧ YSt wr sy cy p lim B (Sp.feedC lim cu0 (S.data.toList.take a)) ∧ RecsAt wr ball vall (n + 1) (Sp.restR (apartS t lim) lim cu0 S.data.toList) ∧ Upd [] w0 wr ∧ bg ≤ wr.heap.size ∧ (∀ k, vall.ownBlock = some k → k < bg)
theorem feed_bd {lim : Nat} (ap : Sp.Ap) {K : List UInt8} (hK : K.length ≤ 1048576) : (Sp.feedC lim cu0 K).num ≤ 1048576 ∧ (Sp.feedC lim cu0 K).frm + (Sp.feedC lim cu0 K).len ≤ 1048576 ∧ (Sp.feedC lim cu0 K).fit lim ∧ (Sp.feedR ap lim cu0 K).length ≤ 1048576 := by
  have h1 := Sp.feedC_num lim ap K cu0
  have h2 := Sp.feedR_length lim ap K cu0
  have h3 := Sp.feedC_sum lim K cu0
  have h4 : cu0.num = 0 := rfl
  have h5 : cu0.frm + cu0.len = 0 := rfl
  exact ⟨by omega, by omega, Sp.fit_feed lim K cu0 (by simp [Sp.Cu.fit, cu0]), by omega⟩
theorem closeR_len (ap : Sp.Ap) (c : Sp.Cu) : (Sp.closeR ap c).length ≤ 1 := by unfold Sp.closeR; split <;> simp
theorem take_extract (S : ByteArray) {a b : Nat} (h1 : a ≤ b) (h2 : b ≤ S.size) : S.data.toList.take b = S.data.toList.take a ++ (S.extract a b).data.toList := by
  rw [ByteArray.data_extract, Array.toList_extract, List.extract_eq_take_drop]
  conv => lhs; rw [show b = a + (b - a) by omega, List.take_add]
theorem take_one (S : ByteArray) {c : Nat} (hc : c < S.size) : S.data.toList.take (c + 1) = S.data.toList.take c ++ [S[c]] := by
  rw [List.take_add_one, List.getElem?_eq_getElem (by rw [Array.length_toList]; exact hc)]
  rfl
theorem openL_nl {S : ByteArray} {c : Nat} (hc : c < S.size) (hx : S[c] = 10) : Sp.openL 0 (S.data.toList.take (c + 1)) = 0 := by
  rw [take_one S hc, Sp.openL_append, Sp.openL, if_pos hx]; rfl
theorem openL_no {S : ByteArray} {c : Nat} (hc : c < S.size) (hx : S[c] ≠ 10) : Sp.openL 0 (S.data.toList.take (c + 1)) = Sp.openL 0 (S.data.toList.take c) + 1 := by
  rw [take_one S hc, Sp.openL_append, Sp.openL, if_neg hx]; rfl
theorem openL_len : ∀ (K : List UInt8) (o : Nat), Sp.openL o K ≤ o + K.length
  | [], o => Nat.le_refl _
  | x :: K, o => by
    rw [Sp.openL]; split
    · have := openL_len K 0; simp; omega
    · have := openL_len K (o + 1); simp; omega
theorem openL_le (S : ByteArray) (c : Nat) : Sp.openL 0 (S.data.toList.take c) ≤ c := by
  have := openL_len (S.data.toList.take c) 0
  have h2 : (S.data.toList.take c).length ≤ c := by simp; omega
  omega
theorem held_is2 (S : ByteArray) (T lim : Nat) : ((Sp.feedC lim cu0 (S.data.toList.take T)).held.length : Int) = min (Sp.openL 0 (S.data.toList.take T) : Int) lim := by
  have h1 : (Sp.feedC lim cu0 (S.data.toList.take T)).held.length = min (Sp.feedC lim cu0 (S.data.toList.take T)).len lim := Sp.fit_feed lim _ cu0 (by simp [Sp.Cu.fit, cu0])
  rw [Sp.feedC_len] at h1
  have h2 : cu0.len = 0 := rfl
  rw [h2] at h1
  omega
/-- Behind some rounds of counting. -/
structure OpInv (w : World) (S : ByteArray) (a T gn : Nat) (vo vc : Value) (wz : World) : Prop where
  st : ∃ c : Nat, vo = .int .i64 (Sp.openL 0 (S.data.toList.take c) : Nat) ∧ vc = .int .i64 c ∧ c + gn = T ∧ a ≤ c ∧ wz = w
/-- Behind the first stream. -/
structure XOut (w2 w8 : World) (S : ByteArray) (t : Tr) (n p lim sy cy B ball : Nat) (v8 : Value) : Prop where
  recs : RecsAt w8 ball v8 (n + 1) (Sp.restR (apartS t lim) lim cu0 S.data.toList)
  y : YSt w8 sy cy p lim B cu0
  upd : Upd [] w2 w8
set_option maxRecDepth 8000 in
set_option maxHeartbeats 1600000 in
theorem cut_yes (a S : ByteArray) (ad : Option Addr) (b off len cap : Nat) (cs : Nat → Int) (li : Int) (t : Tr) (n : Int) (w : World) (hr : Sp.read a = .ok (t, n)) (hS : S.size ≤ 1048576) (hlen : len ≤ 1048576) (hlc : len ≤ cap) (CS : CutsAt w ad b off len cap cs) (hli : -9223372036854775808 ≤ li ∧ li ≤ 9223372036854775807) : Calls Try.prog 9 #[.string a, .string S, .slice ad len cap, .int .i64 li] w fun e w' => e = .returned (.bool true) ∧ Upd [] w w' := by
  have HR : Hid (Sp.read a = .ok (t, n)) := hr
  have HCS : Hid (CutsAt w ad b off len cap cs) := CS
  have HLI : Hid (-9223372036854775808 ≤ li ∧ li ≤ 9223372036854775807) := hli
  clear hr CS hli
  go_enter Try.func9, Try.ntmps9
  go_wp2_with fail
  refine (begun_any w).mono ?_
  rintro e w1 ⟨rfl, u1⟩
  have U1 : Hid (Upd [] w w1) := u1
  clear u1
  go_wp2_with fail
  refine (comp_yes a t n _ HR.out).mono ?_
  rintro e w0 ⟨p, rfl, hp, P0, u2⟩
  have HP : Hid (PatAt w0 p t n.toNat) := P0
  have U2 : Hid (Upd [] w w0) := U1.out.trans u2
  clear u2 P0 hp U1
  go_wp2_with fail
  refine (pick_any li 101 _ HLI.out.1 HLI.out.2 (by omega) (by omega)).mono ?_
  rintro e w2 ⟨⟨lim, rfl, hlim⟩, rfl⟩
  have hl : lim ≤ 100 := by omega
  go_wp2_with fail
  refine (sOpen_at p lim _ hl).mono ?_
  rintro e w3 ⟨sx, cx, gx, capx, rfl, hx1, hx2, hx3, hx4, X1, X2, u3⟩
  have HX : Hid (StAt w3 sx cx ∧ CuSt w3 cx p lim gx 0 capx cu0) := ⟨X1, X2⟩
  have U3 : Hid (Upd [] w2 w3) := u3
  clear X1 X2 u3
  go_wp2_with fail
  refine (sOpen_at p lim _ hl).mono ?_
  rintro e w4 ⟨sy, cy, gy, capy, rfl, hy1, hy2, hy3, hy4, Y1, Y2, u4⟩
  have HY : Hid (YSt w4 sy cy p lim w3.heap.size cu0) := ⟨Y1, ⟨gy, 0, capy, Y2, hy1⟩, by omega, by omega⟩
  have U4 : Hid (Upd [] w3 w4) := u4
  have HX4 : Hid (StAt w4 sx cx ∧ CuSt w4 cx p lim gx 0 capx cu0) := ⟨(u4.block sx hx4 (by simp)).trans HX.out.1, CuAt.blocks HX.out.2 (u4.block cx (by omega) (by simp)) (fun k hk => u4.block k (ownBlock_lt HX.out.2.held hk).1 (by simp))⟩
  clear Y1 Y2 u4
  obtain ⟨cp, w5, hcv, hcp, hB5, hU5, hz5⟩ := toBytes S w4
  have HB5 : Hid (BytesAt w5 w4.heap.size 0 S.data.toList) := hB5
  have U5 : Hid (Upd [] w4 w5) := hU5
  clear hB5 hU5
  have hSL : S.data.toList.length = S.size := by rw [Array.length_toList]; rfl
  have hBX := feed_bd (lim := lim) (apartS t lim) (K := S.data.toList) (by omega)
  have HBX : Hid (_ ∧ _ ∧ _ ∧ _) := hBX
  clear hBX
  have U25 : Hid (Upd [] w2 w5) := (U3.out.trans U4.out).trans U5.out
  have HX5 : Hid (StAt w5 sx cx ∧ CuSt w5 cx p lim gx 0 capx cu0) := ⟨(U5.out.block sx (lt_of_heap HX4.out.1) (by simp)).trans HX4.out.1, CuAt.blocks HX4.out.2 (U5.out.block cx (lt_of_heap HX4.out.2.cell) (by simp)) (fun k hk => U5.out.block k (ownBlock_lt HX4.out.2.held hk).1 (by simp))⟩
  have hz3 := U3.out.size
  have hz4 := U4.out.size
  have hz5' := U5.out.size
  go_wp2_with fail
  have F := stFeed_any w2 sx cx p lim gx 0 capx t n.toNat w4.heap.size 0 cp cu0 S.data.toList w5 hl (by omega) (by omega) (by show 0 ≤ _; omega) (by show 0 + 0 ≤ _; omega) (by simp [Sp.Cu.fit, cu0]) HB5.out HX5.out.1 HX5.out.2 HP.out U25.out (by omega) (by omega) hz5 (by omega) (by omega)
  rw [hSL] at F
  refine F.mono ?_
  clear F
  rintro e w6 ⟨v6, rfl, F6⟩
  have HF6 : Hid (FeedOut w5 cx p lim gx t n.toNat cu0 S.data.toList v6 w6) := F6
  have HS6 : Hid (StAt w6 sx cx) := (F6.upd.block sx (lt_of_heap HX5.out.1) (by simp; omega)).trans HX5.out.1
  have U26 : Hid (Upd [] w2 w6) := U25.out.hide2 F6.upd (by omega) (by omega)
  obtain ⟨g6, h6, cap6, hg6, C6⟩ := F6.cut
  have HC6 : Hid (CuSt w6 cx p lim g6 h6 cap6 (Sp.feedC lim cu0 S.data.toList)) := C6
  clear F6 C6 hg6
  go_wp2_with fail
  refine (stClose_any sx cx p lim g6 h6 cap6 t n.toNat (Sp.feedC lim cu0 S.data.toList) _ hl (by have := HBX.out.1; omega) (by have := HBX.out.2.1; omega) HBX.out.2.2.1 HS6.out HC6.out (HP.out.upd U26.out)).mono ?_
  rintro e w7 ⟨v7, rfl, F7⟩
  have hR7 : RecsAt w7 w5.heap.size v6 (n.toNat + 1) (Sp.feedR (apartS t lim) lim cu0 S.data.toList) := by
    refine HF6.out.recs.keep F7.upd ?_ ?_
    · intro k hk; simp at hk; rcases hk with rfl | rfl
      · exact (CuAt.ty HC6.out).notSp (by decide)
      · exact TyIs.notSp (⟨_, HS6.out⟩ : TyIs w6 k 77) (by decide)
    · intro k hk hm; simp at hm; rcases hm with rfl | rfl
      · exact TyIs.ne (HF6.out.recs.ty hk) (CuAt.ty HC6.out) (by decide) rfl
      · exact TyIs.ne (HF6.out.recs.ty hk) (⟨_, HS6.out⟩ : TyIs w6 k 77) (by decide) rfl
  have HR7 : Hid (RecsAt w7 w5.heap.size v6 (n.toNat + 1) (Sp.feedR (apartS t lim) lim cu0 S.data.toList)) := hR7
  have HQ7 : Hid (RecsAt w7 w6.heap.size v7 (n.toNat + 1) (Sp.closeR (apartS t lim) (Sp.feedC lim cu0 S.data.toList))) := F7.recs
  have U27 : Hid (Upd [] w2 w7) := U26.out.hide2 F7.upd (by omega) (by omega)
  have HY7 : Hid (YSt w7 sy cy p lim w3.heap.size cu0) := ((HY.out.upd U5.out).keep HF6.out.upd (fun k hk => by simp at hk; left; omega)).keep F7.upd (fun k hk => by simp at hk; left; omega)
  have hz7 : w5.heap.size ≤ w7.heap.size := Nat.le_trans HF6.out.upd.size F7.upd.size
  clear F7 hR7
  go_wp2_with (first | (at_builtin; refine wpList_append_rec rfl _ _ rfl w5.heap.size (n.toNat + 1) w6.heap.size v6 (Sp.feedR (apartS t lim) lim cu0 S.data.toList) rfl HR7.out v7 (Sp.closeR (apartS t lim) (Sp.feedC lim cu0 S.data.toList)) rfl HQ7.out ?c1 ?c2 ?_) | fail)
  case c1 => have h1 := HBX.out.2.2.2; have h2 := closeR_len (apartS t lim) (Sp.feedC lim cu0 S.data.toList); omega
  case c2 => exact hz7
  intro v8 w8 hown8 hgrow8
  have HX8 : Hid (XOut w2 w8 S t n.toNat p lim sy cy w3.heap.size w5.heap.size v8) := by
    obtain ⟨xs, o1, _⟩ := HR7.out.ex
    exact ⟨hown8, HY7.out.keep (Upd.of_grown hgrow8) (fun k hk => Or.inr (HR7.out.ty (by simpa using hk))), grown_ups (by omega) U27.out o1 hgrow8⟩
  clear hown8 hgrow8 HY7 HQ7 HR7 U27 HF6 HS6 U26 HC6 HX5 HX4 HX HBX U25 HB5 U5 hcv hcp hz5 hz5' U4 U3 HY
-- LOOP
  go_wp2_with fail
  obtain ⟨bg, hbg0⟩ : ∃ bg, w8.heap.size = bg := ⟨_, rfl⟩
  have hz8 : w2.heap.size ≤ bg := by rw [← hbg0]; exact HX8.out.upd.size
  have START : Hid (CtInv w2 S t n.toNat p lim sy cy w3.heap.size bg w5.heap.size len v8 (len + 1) (.slice none 0 0) (.int .i64 0) (.int .i64 0) (.int .i64 0) w8) := ⟨0, 0, rfl, rfl, rfl, by omega, by omega, fun q => by omega, RecsAt.nil _ _ _, HX8.out.y, HX8.out.recs, HX8.out.upd, by omega, fun k hk => by
    obtain ⟨xs, o1, _⟩ := HX8.out.recs.ex
    have := (ownBlock_lt o1 hk).1
    omega⟩
  clear hbg0
  go_loopg [22, 23, 24, 25] (len + 1) (fun gn vgot vat vopen vk wr => CtInv w2 S t n.toNat p lim sy cy w3.heap.size bg w5.heap.size len v8 gn vgot vat vopen vk wr)
  case atStart => exact START.out
  case round =>
    obtain ⟨k, a, hvk, hva, hvo, hkg, haS, hend, hG, hY, hA, hU, hbg, hal⟩ := hrel.st
    subst hvk hva hvo
    have HG : Hid (RecsAt wr bg u22 (n.toNat + 1) (Sp.feedR (apartS t lim) lim cu0 (S.data.toList.take a))) := hG
    have HY : Hid (YSt wr sy cy p lim w3.heap.size (Sp.feedC lim cu0 (S.data.toList.take a))) := hY
    have HA : Hid (RecsAt wr w5.heap.size v8 (n.toNat + 1) (Sp.restR (apartS t lim) lim cu0 S.data.toList)) := hA
    have HU : Hid (Upd [] w2 wr) := hU
    have HAL : Hid (∀ k, v8.ownBlock = some k → k < bg) := hal
    have HBD : Hid (_ ∧ _ ∧ _ ∧ _) := feed_bd (lim := lim) (apartS t lim) (K := S.data.toList.take a) (by simp; omega)
    clear hG hY hA hU hal
    by_cases hk : k ≤ len
    · have hk' : (k : Int) ≤ len := by omega
      obtain ⟨gm, hgm⟩ : ∃ q, gk = q + 1 := ⟨gk - 1, by omega⟩
      by_cases hkl : k < len
      · have hkl' : (k : Int) < len := by omega
        have had := HCS.out.ad (by omega)
        subst had
        have ck : wr.cell? ⟨b, off + k, none⟩ = some (.int .i64 (cs k)) := (cell_eq ((U2.out.trans HU.out).block b (HCS.out.lt (by omega)) (by simp)) _).trans (HCS.out.cells k hkl)
        have HCB : Hid (-9223372036854775808 ≤ cs k ∧ cs k ≤ 9223372036854775807) := HCS.out.bd k hkl
        have hsa : (S.size : Int) - a = ((S.size - a : Nat) : Int) := by omega
        go_wp2_with fail
        refine (pick_any (cs k) (S.size - a + 1) _ HCB.out.1 HCB.out.2 (by omega) (by omega)).mono ?_
        rintro e wq ⟨⟨r, rfl, hrr⟩, hwq⟩
        rw [hwq]
        clear hwq wq
        obtain ⟨T, hT⟩ : ∃ T, T = a + r := ⟨_, rfl⟩
        have hTi : (a : Int) + r = T := by omega
        have hT1 : a ≤ T := by omega
        have hT2 : T ≤ S.size := by omega
        have HTE : Hid (k = len → T = S.size) := fun q => absurd q (by omega)
        clear hsa hT hrr
        obtain ⟨m, hm⟩ : ∃ m, (S.extract a T).size = m := ⟨_, rfl⟩
        have HM2 : Hid (m = T - a) := by show _ = _; rw [← hm]; exact extract_size S hT2
        have hmb : m ≤ 1048576 := by have := HM2.out; omega
        obtain ⟨K, hK⟩ : ∃ K, K = (S.extract a T).data.toList := ⟨_, rfl⟩
        have HKL : Hid (K.length = m) := by show _ = _; rw [hK, Array.length_toList]; exact hm
        have HKT : Hid (S.data.toList.take T = S.data.toList.take a ++ K) := by show _ = _; rw [hK]; exact take_extract S hT1 hT2
        obtain ⟨cp9, w9, hcv, hcp9, hB9, hU9, hz9⟩ := toBytes (S.extract a T) wr
        rw [hm] at hcv hcp9
        rw [← hK] at hB9
        have HB9 : Hid (BytesAt w9 wr.heap.size 0 K) := hB9
        have U9 : Hid (Upd [] wr w9) := hU9
        clear hB9 hU9 hK hm
        go_wp2_with fail
        have F := yFeed w2 sy cy p lim w3.heap.size t n.toNat cp9 (Sp.feedC lim cu0 (S.data.toList.take a)) K wr w9 hl (by rw [HKL.out]; omega) (by rw [HKL.out]; exact hcp9) (by have := HBD.out.1; omega) (by have := HBD.out.2.1; omega) HBD.out.2.2.1 HY.out U9.out hz9 HB9.out HP.out HU.out (by omega)
        rw [HKL.out] at F
        refine F.mono ?_
        clear F
        rintro e w10 ⟨v10, rfl, r10, y10, f10⟩
        have HR10 : Hid (RecsAt w10 w9.heap.size v10 (n.toNat + 1) (Sp.feedR (apartS t lim) lim (Sp.feedC lim cu0 (S.data.toList.take a)) K)) := r10
        have HY10 : Hid (YSt w10 sy cy p lim w3.heap.size (Sp.feedC lim cu0 (S.data.toList.take T))) := by rw [HKT.out, Sp.feedC_append]; exact y10
        have HG10 : Hid (RecsAt w10 bg u22 (n.toNat + 1) (Sp.feedR (apartS t lim) lim cu0 (S.data.toList.take a))) := (HG.out.upd U9.out).frame f10
        have HA10 : Hid (RecsAt w10 w5.heap.size v8 (n.toNat + 1) (Sp.restR (apartS t lim) lim cu0 S.data.toList)) := (HA.out.upd U9.out).frame f10
        have HU10 : Hid (Upd [] w2 w10) := Frame.base (HU.out.trans U9.out) f10 (by omega)
        have hz10 : bg ≤ w10.heap.size := Nat.le_trans hbg (Nat.le_trans U9.out.size f10.size)
        clear r10 y10 f10 HB9 U9 hcv hcp9 hz9
        go_wp2_with (first | (at_builtin; refine wpList_append_rec rfl _ _ rfl bg (n.toNat + 1) w9.heap.size u22 (Sp.feedR (apartS t lim) lim cu0 (S.data.toList.take a)) rfl HG10.out v10 (Sp.feedR (apartS t lim) lim (Sp.feedC lim cu0 (S.data.toList.take a)) K) rfl HR10.out ?c1 ?c2 ?_) | fail)
        case c1 => have h1 := HBD.out.2.2.2; have h2 := Sp.feedR_length lim (apartS t lim) K (Sp.feedC lim cu0 (S.data.toList.take a)); have := HKL.out; have := HM2.out; omega
        case c2 => exact hz10
        intro v11 w11 hown11 hgrow11
        have HG11 : Hid (RecsAt w11 bg v11 (n.toNat + 1) (Sp.feedR (apartS t lim) lim cu0 (S.data.toList.take T))) := by rw [HKT.out, Sp.feedR_append]; exact hown11
        have HY11 : Hid (YSt w11 sy cy p lim w3.heap.size (Sp.feedC lim cu0 (S.data.toList.take T))) := HY10.out.keep (Upd.of_grown hgrow11) (fun k hk => Or.inr (HG10.out.ty (by simpa using hk)))
        have HA11 : Hid (RecsAt w11 w5.heap.size v8 (n.toNat + 1) (Sp.restR (apartS t lim) lim cu0 S.data.toList)) := HA10.out.grown HG10.out hgrow11 (fun k hk hk' => by
          have h1 := HAL.out k hk'
          obtain ⟨xs, o1, _⟩ := HG10.out.ex
          have := (ownBlock_lt o1 hk).2
          omega)
        have HU11 : Hid (Upd [] w2 w11) := by
          obtain ⟨xs, o1, _⟩ := HG10.out.ex
          exact grown_ups (by omega) HU10.out o1 hgrow11
        have hz11 : bg ≤ w11.heap.size := Nat.le_trans hz10 hgrow11.size
        clear hown11 hgrow11 HG10 HA10 HU10 HY10 HR10 HKT HKL hrel
        go_wp2_with fail
        go_loopg [24, 29] (T - a) (fun gn vo vc wz => OpInv w11 S a T gn vo vc wz)
        case atStart => exact ⟨a, rfl, rfl, by omega, Nat.le_refl _, rfl⟩
        case round =>
          obtain ⟨c, hvo, hvc, hcg, hca, hwz⟩ := hrel.st
          subst hvo hvc hwz
          by_cases hlt : c < T
          · have hlt' : (c : Int) < T := by omega
            have hcS : c < S.size := by omega
            have hcS' : (c : Int) < S.size := by omega
            obtain ⟨gm2, hgm2⟩ : ∃ q, gk = q + 1 := ⟨gk - 1, by omega⟩
            have hob : Sp.openL 0 (S.data.toList.take c) ≤ c := openL_le S c
            by_cases hx : S[c] = 10
            · have hx' : (S[c].toNat : Int) = 10 := by rw [hx]; rfl
              have RL : Hid (OpInv wr S a T gm2 (.int .i64 0) (.int .i64 ((c + 1 : Nat) : Int)) wr) := ⟨c + 1, by rw [openL_nl hcS hx]; rfl, rfl, by omega, by omega, rfl⟩
              go_wp2_with fail
              go_roundg gm2
              case measure => omega
              case rel => exact RL.out
            · have hx' : ¬ (S[c].toNat : Int) = 10 := fun q => hx (UInt8.toNat.inj (by show S[c].toNat = 10; omega))
              have RL : Hid (OpInv wr S a T gm2 (.int .i64 ((Sp.openL 0 (S.data.toList.take c) : Int) + 1)) (.int .i64 ((c + 1 : Nat) : Int)) wr) := ⟨c + 1, by rw [openL_no hcS hx]; rfl, rfl, by omega, by omega, rfl⟩
              go_wp2_with fail
              go_roundg gm2
              case measure => omega
              case rel => exact RL.out
          · have hlt' : ¬ (c : Int) < T := by omega
            have hcT : T = c := by omega
            subst hcT
            go_wp2_with fail
            refine (yHeld sy cy p lim w3.heap.size _ _ HY11.out).mono ?_
            rintro e w12 ⟨rfl, u12⟩
            have hheld : ((Sp.feedC lim cu0 (S.data.toList.take T)).held.length : Int) = min (Sp.openL 0 (S.data.toList.take T) : Int) lim := held_is2 S T lim
            have RL : Hid (CtInv w2 S t n.toNat p lim sy cy w3.heap.size bg w5.heap.size len v8 gm v11 (.int .i64 T) (.int .i64 (Sp.openL 0 (S.data.toList.take T) : Nat)) (.int .i64 ((k + 1 : Nat) : Int)) w12) := ⟨k + 1, T, rfl, rfl, rfl, by omega, hT2, fun q => HTE.out (by omega), HG11.out.upd u12, HY11.out.upd u12, HA11.out.upd u12, HU11.out.trans u12, Nat.le_trans hz11 u12.size, HAL.out⟩
            clear u12
            go_wp2_with fail
            go_roundg gm
            case measure => omega
            case rel => exact RL.out
      · have hkl' : ¬ (k : Int) < len := by omega
        have hT1 : a ≤ S.size := haS
        have hT2 : S.size ≤ S.size := Nat.le_refl _
        have HTE : Hid (k = len → S.size = S.size) := fun _ => rfl
        obtain ⟨m, hm⟩ : ∃ m, (S.extract a S.size).size = m := ⟨_, rfl⟩
        have HM2 : Hid (m = S.size - a) := by show _ = _; rw [← hm]; exact extract_size S hT2
        have hmb : m ≤ 1048576 := by have := HM2.out; omega
        obtain ⟨K, hK⟩ : ∃ K, K = (S.extract a S.size).data.toList := ⟨_, rfl⟩
        have HKL : Hid (K.length = m) := by show _ = _; rw [hK, Array.length_toList]; exact hm
        have HKT : Hid (S.data.toList.take S.size = S.data.toList.take a ++ K) := by show _ = _; rw [hK]; exact take_extract S hT1 hT2
        obtain ⟨cp9, w9, hcv, hcp9, hB9, hU9, hz9⟩ := toBytes (S.extract a S.size) wr
        rw [hm] at hcv hcp9
        rw [← hK] at hB9
        have HB9 : Hid (BytesAt w9 wr.heap.size 0 K) := hB9
        have U9 : Hid (Upd [] wr w9) := hU9
        clear hB9 hU9 hK hm
        go_wp2_with fail
        have F := yFeed w2 sy cy p lim w3.heap.size t n.toNat cp9 (Sp.feedC lim cu0 (S.data.toList.take a)) K wr w9 hl (by rw [HKL.out]; omega) (by rw [HKL.out]; exact hcp9) (by have := HBD.out.1; omega) (by have := HBD.out.2.1; omega) HBD.out.2.2.1 HY.out U9.out hz9 HB9.out HP.out HU.out (by omega)
        rw [HKL.out] at F
        refine F.mono ?_
        clear F
        rintro e w10 ⟨v10, rfl, r10, y10, f10⟩
        have HR10 : Hid (RecsAt w10 w9.heap.size v10 (n.toNat + 1) (Sp.feedR (apartS t lim) lim (Sp.feedC lim cu0 (S.data.toList.take a)) K)) := r10
        have HY10 : Hid (YSt w10 sy cy p lim w3.heap.size (Sp.feedC lim cu0 (S.data.toList.take S.size))) := by rw [HKT.out, Sp.feedC_append]; exact y10
        have HG10 : Hid (RecsAt w10 bg u22 (n.toNat + 1) (Sp.feedR (apartS t lim) lim cu0 (S.data.toList.take a))) := (HG.out.upd U9.out).frame f10
        have HA10 : Hid (RecsAt w10 w5.heap.size v8 (n.toNat + 1) (Sp.restR (apartS t lim) lim cu0 S.data.toList)) := (HA.out.upd U9.out).frame f10
        have HU10 : Hid (Upd [] w2 w10) := Frame.base (HU.out.trans U9.out) f10 (by omega)
        have hz10 : bg ≤ w10.heap.size := Nat.le_trans hbg (Nat.le_trans U9.out.size f10.size)
        clear r10 y10 f10 HB9 U9 hcv hcp9 hz9
        go_wp2_with (first | (at_builtin; refine wpList_append_rec rfl _ _ rfl bg (n.toNat + 1) w9.heap.size u22 (Sp.feedR (apartS t lim) lim cu0 (S.data.toList.take a)) rfl HG10.out v10 (Sp.feedR (apartS t lim) lim (Sp.feedC lim cu0 (S.data.toList.take a)) K) rfl HR10.out ?c1 ?c2 ?_) | fail)
        case c1 => have h1 := HBD.out.2.2.2; have h2 := Sp.feedR_length lim (apartS t lim) K (Sp.feedC lim cu0 (S.data.toList.take a)); have := HKL.out; have := HM2.out; omega
        case c2 => exact hz10
        intro v11 w11 hown11 hgrow11
        have HG11 : Hid (RecsAt w11 bg v11 (n.toNat + 1) (Sp.feedR (apartS t lim) lim cu0 (S.data.toList.take S.size))) := by rw [HKT.out, Sp.feedR_append]; exact hown11
        have HY11 : Hid (YSt w11 sy cy p lim w3.heap.size (Sp.feedC lim cu0 (S.data.toList.take S.size))) := HY10.out.keep (Upd.of_grown hgrow11) (fun k hk => Or.inr (HG10.out.ty (by simpa using hk)))
        have HA11 : Hid (RecsAt w11 w5.heap.size v8 (n.toNat + 1) (Sp.restR (apartS t lim) lim cu0 S.data.toList)) := HA10.out.grown HG10.out hgrow11 (fun k hk hk' => by
          have h1 := HAL.out k hk'
          obtain ⟨xs, o1, _⟩ := HG10.out.ex
          have := (ownBlock_lt o1 hk).2
          omega)
        have HU11 : Hid (Upd [] w2 w11) := by
          obtain ⟨xs, o1, _⟩ := HG10.out.ex
          exact grown_ups (by omega) HU10.out o1 hgrow11
        have hz11 : bg ≤ w11.heap.size := Nat.le_trans hz10 hgrow11.size
        clear hown11 hgrow11 HG10 HA10 HU10 HY10 HR10 HKT HKL hrel
        go_wp2_with fail
        go_loopg [24, 29] (S.size - a) (fun gn vo vc wz => OpInv w11 S a S.size gn vo vc wz)
        case atStart => exact ⟨a, rfl, rfl, by omega, Nat.le_refl _, rfl⟩
        case round =>
          obtain ⟨c, hvo, hvc, hcg, hca, hwz⟩ := hrel.st
          subst hvo hvc hwz
          by_cases hlt : c < S.size
          · have hlt' : (c : Int) < S.size := by omega
            have hcS : c < S.size := by omega
            have hcS' : (c : Int) < S.size := by omega
            obtain ⟨gm2, hgm2⟩ : ∃ q, gk = q + 1 := ⟨gk - 1, by omega⟩
            have hob : Sp.openL 0 (S.data.toList.take c) ≤ c := openL_le S c
            by_cases hx : S[c] = 10
            · have hx' : (S[c].toNat : Int) = 10 := by rw [hx]; rfl
              have RL : Hid (OpInv wr S a S.size gm2 (.int .i64 0) (.int .i64 ((c + 1 : Nat) : Int)) wr) := ⟨c + 1, by rw [openL_nl hcS hx]; rfl, rfl, by omega, by omega, rfl⟩
              go_wp2_with fail
              go_roundg gm2
              case measure => omega
              case rel => exact RL.out
            · have hx' : ¬ (S[c].toNat : Int) = 10 := fun q => hx (UInt8.toNat.inj (by show S[c].toNat = 10; omega))
              have RL : Hid (OpInv wr S a S.size gm2 (.int .i64 ((Sp.openL 0 (S.data.toList.take c) : Int) + 1)) (.int .i64 ((c + 1 : Nat) : Int)) wr) := ⟨c + 1, by rw [openL_no hcS hx]; rfl, rfl, by omega, by omega, rfl⟩
              go_wp2_with fail
              go_roundg gm2
              case measure => omega
              case rel => exact RL.out
          · have hlt' : ¬ (c : Int) < S.size := by omega
            have hcT : S.size = c := by omega
            subst hcT
            go_wp2_with fail
            refine (yHeld sy cy p lim w3.heap.size _ _ HY11.out).mono ?_
            rintro e w12 ⟨rfl, u12⟩
            have hheld : ((Sp.feedC lim cu0 (S.data.toList.take S.size)).held.length : Int) = min (Sp.openL 0 (S.data.toList.take S.size) : Int) lim := held_is2 S S.size lim
            have RL : Hid (CtInv w2 S t n.toNat p lim sy cy w3.heap.size bg w5.heap.size len v8 gm v11 (.int .i64 S.size) (.int .i64 (Sp.openL 0 (S.data.toList.take S.size) : Nat)) (.int .i64 ((k + 1 : Nat) : Int)) w12) := ⟨k + 1, S.size, rfl, rfl, rfl, by omega, hT2, fun _ => rfl, HG11.out.upd u12, HY11.out.upd u12, HA11.out.upd u12, HU11.out.trans u12, Nat.le_trans hz11 u12.size, HAL.out⟩
            clear u12
            go_wp2_with fail
            go_roundg gm
            case measure => omega
            case rel => exact RL.out
    · have hk' : ¬ (k : Int) ≤ len := by omega
      have haE : a = S.size := hend (by omega)
      subst haE
      have HALL : Hid (S.data.toList.take S.size = S.data.toList) := List.take_of_length_le (by omega)
      have hn9 : n.toNat ≤ 9 := HP.out.1
      go_wp2_with fail
      refine (yClose sy cy p lim w3.heap.size t n.toNat _ _ hl (by have := HBD.out.1; omega) (by have := HBD.out.2.1; omega) HBD.out.2.2.1 HY.out (HP.out.upd HU.out)).mono ?_
      rintro e w12 ⟨v12, rfl, r12, f12⟩
      have HR12 : Hid (RecsAt w12 wr.heap.size v12 (n.toNat + 1) (Sp.closeR (apartS t lim) (Sp.feedC lim cu0 (S.data.toList.take S.size)))) := r12
      have HG12 : Hid (RecsAt w12 bg u22 (n.toNat + 1) (Sp.feedR (apartS t lim) lim cu0 (S.data.toList.take S.size))) := HG.out.frame f12
      have HA12 : Hid (RecsAt w12 w5.heap.size v8 (n.toNat + 1) (Sp.restR (apartS t lim) lim cu0 S.data.toList)) := HA.out.frame f12
      have HU12 : Hid (Upd [] w2 w12) := Frame.base HU.out f12 (by omega)
      have hz12 : bg ≤ w12.heap.size := Nat.le_trans hbg f12.size
      clear r12 f12
      go_wp2_with (first | (at_builtin; refine wpList_append_rec rfl _ _ rfl bg (n.toNat + 1) wr.heap.size u22 (Sp.feedR (apartS t lim) lim cu0 (S.data.toList.take S.size)) rfl HG12.out v12 (Sp.closeR (apartS t lim) (Sp.feedC lim cu0 (S.data.toList.take S.size))) rfl HR12.out ?c1 ?c2 ?_) | fail)
      case c1 => have h1 := HBD.out.2.2.2; have h2 := closeR_len (apartS t lim) (Sp.feedC lim cu0 (S.data.toList.take S.size)); omega
      case c2 => exact hz12
      intro v13 w13 hown13 hgrow13
      have HG13 : Hid (RecsAt w13 bg v13 (n.toNat + 1) (Sp.restR (apartS t lim) lim cu0 S.data.toList)) := by rw [HALL.out] at hown13; exact hown13
      have HA13 : Hid (RecsAt w13 w5.heap.size v8 (n.toNat + 1) (Sp.restR (apartS t lim) lim cu0 S.data.toList)) := HA12.out.grown HG12.out hgrow13 (fun k hk hk' => by
        have h1 := HAL.out k hk'
        obtain ⟨xs, o1, _⟩ := HG12.out.ex
        have := (ownBlock_lt o1 hk).2
        omega)
      have HU13 : Hid (Upd [] w2 w13) := by
        obtain ⟨xs, o1, _⟩ := HG12.out.ex
        exact grown_ups (by omega) HU12.out o1 hgrow13
      have HLN : Hid ((Sp.restR (apartS t lim) lim cu0 S.data.toList).length ≤ 4000000) := by
        have h1 := HBD.out.2.2.2
        rw [HALL.out] at h1
        have h2 := closeR_len (apartS t lim) (Sp.feedC lim cu0 S.data.toList)
        show (Sp.restR (apartS t lim) lim cu0 S.data.toList).length ≤ 4000000
        unfold Sp.restR
        rw [List.length_append]
        omega
      clear hown13 hgrow13 hrel
      go_wp2_with fail
      refine (records_any v13 v8 _ _ bg w5.heap.size (n.toNat + 1) (by omega) HLN.out HG13.out HA13.out).mono ?_
      rintro e w14 ⟨rfl, u14⟩
      have HU14 : Hid (Upd [] w2 w14) := HU13.out.trans u14
      have HA14 : Hid (RecsAt w14 w5.heap.size v8 (n.toNat + 1) (Sp.restR (apartS t lim) lim cu0 S.data.toList)) := HA13.out.upd u14
      clear u14
      go_wp2_with fail
      refine (apart_any p lim w5.heap.size S t n.toNat v8 _ _ hl (by omega) (HP.out.upd HU14.out) HA14.out rfl).mono ?_
      rintro e w15 ⟨rfl, u15⟩
      have HU15 : Hid (Upd [] w w15) := U2.out.trans (HU14.out.trans u15)
      clear u15
      go_wp2_with fail
      go_ret
      exact ⟨rfl, HU15.out⟩
end Go.Proofs.Ytcpfpnjkfahjcaa
