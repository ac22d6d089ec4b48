import Derived.Test.YtadmlifmcdnhnaaDoorH23
set_option linter.unusedSimpArgs false
set_option linter.unusedVariables false
namespace Go.Proofs.YtadmlifmcdnhnaaDoor
open Go.RowKit

set_option maxHeartbeats 400000 in
theorem prAll_nil (b : Nat) (l : List UInt8) (bs : ByteArray) (w : World) (h : BdAt w b l) :
    Calls Tryd.prog 33 #[.pointer (some ⟨b, 0, none⟩), .string bs, .slice none 0 0] w (PrOut b l [] w) := by
  have hh : Hid (BdAt w b l) := h
  clear h
  go_enter Tryd.func33, Tryd.ntmps33
  go_wp2_with fail
  refine wp_loop_rounds 1 ?_
  rw [rounds_succ]
  go_wp2_with fail
  go_end0
  exact ⟨rfl, by simpa using hh.out, Below.refl _ _⟩

theorem prAll_any (b : Nat) (l : List UInt8) (bar : Bool) (lv : Value) (qs : List Nat) (ks : List Tr) (w : World) (h : BdAt w b l) (hl : l.length + 2321 * Sp.nodes ks ≤ 7000000) (hn : NodesAt w (fun k => k < b) qs ks) (ho : w.ownsRow 0 34 1 lv qs.length (qs.map ptr)) (hg : ∀ g, lv.ownBlock = some g → g < b) (hw : ∀ (k : Nat) t, ks[k]? = some t → WriteC t) (hql : qs.length ≤ 1000) :
    Calls Tryd.prog 33 #[.pointer (some ⟨b, 0, none⟩), .string (between bar), lv] w (PrOut b l (Sp.texts bar true ks) w) := by
  rcases own_cells ho with ⟨hl', hqs⟩ | ⟨g, cap, hl', hcap, hmax, hcell⟩
  · subst hl' hqs
    have hts : ks = [] := List.eq_nil_of_length_eq_zero (by have := NodesAt.length _ _ hn; simpa using this.symm)
    subst hts
    rw [show Sp.texts bar true [] = [] by rw [Sp.texts]]
    exact prAll_nil b l _ w h
  · subst hl'
    exact prAll_some b l bar g cap qs ks w h hl hn (hg g rfl) hcell hw hql

set_option maxHeartbeats 800000 in
theorem prGroup_any (b : Nat) (l : List UInt8) (p q g cap : Nat) (num : Int) (told : Bool) (t : Tr) (w : World) (h : BdAt w b l) (hl : l.length + 2321 * Sp.nodes [t] + 3 ≤ 7000000) (hn : NodesAt w (fun k => k < b) [q] [t]) (hp : p < b) (hg : g < b) (c9 : w.cell? ⟨p, 9, none⟩ = some (.int .i64 num)) (c2 : w.cell? ⟨p, 2, none⟩ = some (.slice (some ⟨g, 0, none⟩) 1 cap)) (cg : w.cell? ⟨g, 0, none⟩ = some (.pointer (some ⟨q, 0, none⟩))) (hw : WriteC t) (ht : told = decide (num ≠ 0)) :
    Calls Tryd.prog 31 #[.pointer (some ⟨b, 0, none⟩), .pointer (some ⟨p, 0, none⟩)] w (PrOut b l ((if told then [40] else [40, 63, 58]) ++ Sp.text t ++ [41]) w) := by
  have hh : Hid (BdAt w b l) := h
  have HN : Hid (NodesAt w (fun k => k < b) [q] [t]) := hn
  have HW : Hid (WriteC t) := hw
  have htx : (Sp.text t).length ≤ 2320 * Sp.nodes [t] := by
    have := Sp.texts_le false [t] true
    rw [Sp.texts_cons] at this; simp [Sp.texts] at this; exact this
  clear h hn hw
  by_cases h0 : num = 0
  · subst h0
    have e : told = false := by rw [ht]; simp
    subst e
    clear ht
    show Calls _ _ _ _ (PrOut b l ([40, 63, 58] ++ Sp.text t ++ [41]) w)
    go_enter Tryd.func31, Tryd.ntmps31
    go_wp2_with fail
    refine (wb_any b l 40 _ (by exact hh.out) (by omega)).mono ?_
    rintro e w1 ⟨rfl, hb1, hu1⟩
    have HB1 : Hid (BdAt w1 b (l ++ [40])) := hb1
    have HU1 : Hid (Below b w w1) := hu1
    have d9 : w1.cell? ⟨p, 9, none⟩ = some (.int .i64 0) := (cell_same (hu1.block p hp) 9).trans c9
    clear hb1 hu1
    go_wp2_with fail
    refine (ws_any b (l ++ [40]) _ _ (by exact HB1.out) (by simp; omega) (by decide)).mono ?_
    rintro e w2 ⟨rfl, hb2, hu2⟩
    have HB2 : Hid (BdAt w2 b (l ++ [40] ++ [63, 58])) := hb2
    have HU2 : Hid (Below b w w2) := HU1.out.trans hu2
    have d2 : w2.cell? ⟨p, 2, none⟩ = some (.slice (some ⟨g, 0, none⟩) 1 cap) := (cell_same (HU2.out.block p hp) 2).trans c2
    have dg : w2.cell? ⟨g, 0, none⟩ = some (.pointer (some ⟨q, 0, none⟩)) := (cell_same (HU2.out.block g hg) 0).trans cg
    clear hb2 hu2 d9 c9 c2 cg
    go_wp2_with fail
    refine (HW.out q b (l ++ [40] ++ [63, 58]) _ (by exact HB2.out) (by simp; omega) (by exact HN.out.below HU2.out)).mono ?_
    rintro e w3 ⟨rfl, hb3, hu3⟩
    have HB3 : Hid (BdAt w3 b (l ++ [40] ++ [63, 58] ++ Sp.text t)) := hb3
    have HU3 : Hid (Below b w w3) := HU2.out.trans hu3
    clear hb3 hu3
    go_wp2_with fail
    refine (wb_any b (l ++ [40] ++ [63, 58] ++ Sp.text t) 41 _ (by exact HB3.out) (by simp; omega)).mono ?_
    rintro e w4 ⟨rfl, hb4, hu4⟩
    go_wp2_with fail
    go_end0
    exact ⟨rfl, by simpa using hb4, HU3.out.trans hu4⟩
  · have e : told = true := by rw [ht]; simp [h0]
    subst e
    have h0' : (num == 0) = false := by simpa using h0
    clear ht
    show Calls _ _ _ _ (PrOut b l ([40] ++ Sp.text t ++ [41]) w)
    go_enter Tryd.func31, Tryd.ntmps31
    go_wp2_with fail
    refine (wb_any b l 40 _ (by exact hh.out) (by omega)).mono ?_
    rintro e w2 ⟨rfl, hb2, hu2⟩
    have HB2 : Hid (BdAt w2 b (l ++ [40])) := hb2
    have HU2 : Hid (Below b w w2) := hu2
    have d9 : w2.cell? ⟨p, 9, none⟩ = some (.int .i64 num) := (cell_same (hu2.block p hp) 9).trans c9
    have d2 : w2.cell? ⟨p, 2, none⟩ = some (.slice (some ⟨g, 0, none⟩) 1 cap) := (cell_same (HU2.out.block p hp) 2).trans c2
    have dg : w2.cell? ⟨g, 0, none⟩ = some (.pointer (some ⟨q, 0, none⟩)) := (cell_same (HU2.out.block g hg) 0).trans cg
    clear hb2 hu2 c9 c2 cg
    go_wp2_with fail
    refine (HW.out q b (l ++ [40]) _ (by exact HB2.out) (by simp; omega) (by exact HN.out.below HU2.out)).mono ?_
    rintro e w3 ⟨rfl, hb3, hu3⟩
    have HB3 : Hid (BdAt w3 b (l ++ [40] ++ Sp.text t)) := hb3
    have HU3 : Hid (Below b w w3) := HU2.out.trans hu3
    clear hb3 hu3
    go_wp2_with fail
    refine (wb_any b (l ++ [40] ++ Sp.text t) 41 _ (by exact HB3.out) (by simp; omega)).mono ?_
    rintro e w4 ⟨rfl, hb4, hu4⟩
    go_wp2_with fail
    go_end0
    exact ⟨rfl, by simpa using hb4, HU3.out.trans hu4⟩


set_option maxHeartbeats 2000000 in
theorem pbare_any (a : Lab) (ks : List Tr) (ha : Sp.LabOK a) (hnum : a.kind = 3 → ks.length = 1 ∧ a.told = decide (a.num ≠ 0)) (hw : ∀ (k : Nat) t, ks[k]? = some t → WriteC t) (p b : Nat) (l : List UInt8) (sz : Int) (lv : Value) (qs : List Nat) (w : World) (h : BdAt w b l) (hl : l.length + 2321 * Sp.nodes ks + 2321 ≤ 7000000)
    (hp : p < b) (ht : TnAt w p (tnOf a sz lv)) (ho : w.ownsRow 0 34 1 lv qs.length (qs.map ptr)) (hg : ∀ g, lv.ownBlock = some g → g < b) (hn : NodesAt w (fun k => k < b) qs ks) (hql : ks.length ≤ 1000) :
    Calls Tryd.prog 16 #[.pointer (some ⟨b, 0, none⟩), .pointer (some ⟨p, 0, none⟩)] w (PrOut b l (Sp.bare1 a (Sp.texts (a.kind == 4) true ks)) w) := by
  have hh : Hid (BdAt w b l) := h
  have HT : Hid (TnAt w p (tnOf a sz lv)) := ht
  have HO : Hid (w.ownsRow 0 34 1 lv qs.length (qs.map ptr)) := ho
  have HG : Hid (∀ g, lv.ownBlock = some g → g < b) := hg
  have HN : Hid (NodesAt w (fun k => k < b) qs ks) := hn
  have HL : Hid (qs.length = ks.length) := NodesAt.length _ _ hn
  have HW : Hid (∀ (k : Nat) t, ks[k]? = some t → WriteC t) := hw
  have f0 := ht.facts.c0
  clear h ht ho hg hn hw
  have hk5 := ha.kind
  rcases (by omega : a.kind = 0 ∨ a.kind = 1 ∨ a.kind = 2 ∨ a.kind = 3 ∨ a.kind = 4 ∨ a.kind = 5) with hk | hk | hk | hk | hk | hk
  · have hb := (ha.byte hk).1
    have c0 : w.cell? ⟨p, 0, none⟩ = some (.int .i64 0) := by simpa [tnOf, kindP, hk] using f0
    have c3 : w.cell? ⟨p, 3, none⟩ = some (.int .u8 a.byte) := by simpa [tnOf, hk] using HT.out.facts.c3
    have HR : Hid (Sp.bare1 a (Sp.texts (a.kind == 4) true ks) = Sp.shown a.byte false) := by show _ = _; unfold Sp.bare1; rw [if_neg (by omega), if_pos hk]
    rw [HR.out]
    clear f0 hk hnum
    go_enter Tryd.func16, Tryd.ntmps16
    go_wp2_with fail
    refine (prByte_any b l false a.byte _ (by exact hh.out) (by omega) (by omega) (by omega)).mono ?_
    rintro e w1 ⟨rfl, hb1, hu1⟩
    go_wp2_with fail
    go_end0
    exact ⟨rfl, hb1, hu1⟩
  · have c0 : w.cell? ⟨p, 0, none⟩ = some (.int .i64 1) := by simpa [tnOf, kindP, hk] using f0
    have HR : Hid (Sp.bare1 a (Sp.texts (a.kind == 4) true ks) = [46]) := by show _ = _; unfold Sp.bare1; rw [if_pos hk]
    rw [HR.out]
    clear f0 hk hnum
    go_enter Tryd.func16, Tryd.ntmps16
    go_wp2_with fail
    refine (wb_any b l 46 _ (by exact hh.out) (by omega)).mono ?_
    rintro e w1 ⟨rfl, hb1, hu1⟩
    go_wp2_with fail
    go_end0
    exact ⟨rfl, hb1, hu1⟩
  · have c0 : w.cell? ⟨p, 0, none⟩ = some (.int .i64 2) := by simpa [tnOf, kindP, hk] using f0
    have HS : Hid (SetIn w p 4 a.set) := ⟨by simpa [tnOf, wordP, hk] using HT.out.facts.c4, by simpa [tnOf, wordP, hk] using HT.out.facts.c5, by simpa [tnOf, wordP, hk] using HT.out.facts.c6, by simpa [tnOf, wordP, hk] using HT.out.facts.c7⟩
    have c8 : w.cell? ⟨p, 8, none⟩ = some (.bool a.not) := by simpa [tnOf, hk] using HT.out.facts.c8
    have HR : Hid (Sp.bare1 a (Sp.texts (a.kind == 4) true ks) = (if a.not then [91, 94] else [91]) ++ Sp.listed a.set ++ [93]) := by show _ = _; unfold Sp.bare1; rw [if_neg (by omega), if_neg (by omega), if_pos hk]
    rw [HR.out]
    obtain ⟨new, HNW⟩ : ∃ new, Hid (new = (if a.not then [91, 94] else [91]) ++ Sp.listed a.set ++ [93]) := ⟨_, (rfl : (if a.not then [91, 94] else [91]) ++ Sp.listed a.set ++ [93] = _)⟩
    rw [← HNW.out]
    have H8 : Hid (w.cell? ⟨p, 8, none⟩ = some (.bool a.not)) := c8
    clear f0 hk hnum c8
    go_enter Tryd.func16, Tryd.ntmps16
    go_wp2_with fail
    refine (prList_core b l p a.set a.not _ (by exact hh.out) (by omega) hp (by exact HS.out) (by exact H8.out)).mono ?_
    rw [← HNW.out]
    rintro e w1 ⟨rfl, hb1, hu1⟩
    go_wp2_with fail
    go_end0
    exact ⟨rfl, hb1, hu1⟩
  · obtain ⟨hone, htold⟩ := hnum hk
    obtain ⟨t, rfl⟩ : ∃ t, ks = [t] := by
      match ks, hone with
      | [t], _ => exact ⟨t, rfl⟩
    have hq1 : qs.length = 1 := HL.out
    obtain ⟨q, rfl⟩ : ∃ q, qs = [q] := by
      match qs, hq1 with
      | [q], _ => exact ⟨q, rfl⟩
    obtain ⟨g, cap, hlv, hgc⟩ : ∃ g cap, lv = .slice (some ⟨g, 0, none⟩) 1 cap ∧ w.cell? ⟨g, 0, none⟩ = some (.pointer (some ⟨q, 0, none⟩)) := by
      rcases own_cells HO.out with ⟨_, hqs⟩ | ⟨g, cap, hl', _, _, hcell⟩
      · cases hqs
      · exact ⟨g, cap, hl', hcell 0 q rfl⟩
    have hgb : g < b := HG.out g (by rw [hlv]; rfl)
    have c0 : w.cell? ⟨p, 0, none⟩ = some (.int .i64 3) := by simpa [tnOf, kindP, hk] using f0
    have c2 : w.cell? ⟨p, 2, none⟩ = some (.slice (some ⟨g, 0, none⟩) 1 cap) := by rw [← hlv]; exact HT.out.facts.c2
    have c9 : w.cell? ⟨p, 9, none⟩ = some (.int .i64 a.num) := by simpa [tnOf, hk] using HT.out.facts.c9
    have HR : Hid (Sp.bare1 a (Sp.texts (a.kind == 4) true [t]) = (if a.told then [40] else [40, 63, 58]) ++ Sp.text t ++ [41]) := by
      show _ = _; unfold Sp.bare1; rw [if_neg (by omega), if_neg (by omega), if_neg (by omega), if_pos hk, Sp.texts_cons]; simp [Sp.texts]
    rw [HR.out]
    obtain ⟨new, HNW⟩ : ∃ new, Hid (new = (if a.told then [40] else [40, 63, 58]) ++ Sp.text t ++ [41]) := ⟨_, (rfl : (if a.told then [40] else [40, 63, 58]) ++ Sp.text t ++ [41] = _)⟩
    rw [← HNW.out]
    have HC : Hid (w.cell? ⟨p, 9, none⟩ = some (.int .i64 a.num) ∧ w.cell? ⟨p, 2, none⟩ = some (.slice (some ⟨g, 0, none⟩) 1 cap) ∧ w.cell? ⟨g, 0, none⟩ = some (.pointer (some ⟨q, 0, none⟩)) ∧ a.told = decide ((a.num : Int) ≠ 0)) := ⟨c9, c2, hgc, by rw [htold]; simp⟩
    clear f0 hk hnum c9 c2 hgc htold hlv hone hq1
    go_enter Tryd.func16, Tryd.ntmps16
    go_wp2_with fail
    refine (prGroup_any b l p q g cap a.num a.told t _ (by exact hh.out) (by omega) (by exact HN.out) hp hgb (by exact HC.out.1) (by exact HC.out.2.1) (by exact HC.out.2.2.1) (HW.out 0 t rfl) HC.out.2.2.2).mono ?_
    rw [← HNW.out]
    rintro e w1 ⟨rfl, hb1, hu1⟩
    go_wp2_with fail
    go_end0
    exact ⟨rfl, hb1, hu1⟩
  · have c0 : w.cell? ⟨p, 0, none⟩ = some (.int .i64 6) := by simpa [tnOf, kindP, hk] using f0
    have c2 : w.cell? ⟨p, 2, none⟩ = some lv := HT.out.facts.c2
    have HR : Hid (Sp.bare1 a (Sp.texts (a.kind == 4) true ks) = Sp.texts true true ks) := by
      show _ = _; unfold Sp.bare1; rw [if_neg (by omega), if_neg (by omega), if_neg (by omega), if_neg (by omega), hk]; rfl
    rw [HR.out]
    clear f0 hk hnum
    go_enter Tryd.func16, Tryd.ntmps16
    go_wp2_with fail
    refine (prAll_any b l true lv qs ks _ (by exact hh.out) (by omega) (by exact HN.out) (by exact HO.out) HG.out HW.out (by have := HL.out; omega)).mono ?_
    rintro e w1 ⟨rfl, hb1, hu1⟩
    go_wp2_with fail
    go_end0
    exact ⟨rfl, hb1, hu1⟩
  · have c0 : w.cell? ⟨p, 0, none⟩ = some (.int .i64 5) := by simpa [tnOf, kindP, hk] using f0
    have c2 : w.cell? ⟨p, 2, none⟩ = some lv := HT.out.facts.c2
    have HR : Hid (Sp.bare1 a (Sp.texts (a.kind == 4) true ks) = Sp.texts false true ks) := by
      show _ = _; unfold Sp.bare1; rw [if_neg (by omega), if_neg (by omega), if_neg (by omega), if_neg (by omega), hk]; rfl
    rw [HR.out]
    clear f0 hk hnum
    go_enter Tryd.func16, Tryd.ntmps16
    go_wp2_with fail
    refine (prAll_any b l false lv qs ks _ (by exact hh.out) (by omega) (by exact HN.out) (by exact HO.out) HG.out HW.out (by have := HL.out; omega)).mono ?_
    rintro e w1 ⟨rfl, hb1, hu1⟩
    go_wp2_with fail
    go_end0
    exact ⟨rfl, hb1, hu1⟩
end Go.Proofs.YtadmlifmcdnhnaaDoor

set_option linter.unusedSimpArgs false
set_option linter.unusedVariables false
namespace Go.Proofs.YtadmlifmcdnhnaaDoor
open Go.RowKit

set_option maxHeartbeats 1000000 in
theorem write_core (a : Lab) (ks : List Tr) (ha : Sp.LabOK a) (hnum : a.kind = 3 → ks.length = 1 ∧ a.told = decide (a.num ≠ 0)) (hw : ∀ (k : Nat) t, ks[k]? = some t → WriteC t) (hql : ks.length ≤ 1000) : WriteC ⟨a, ks⟩ := by
  intro p b l w h hl hn
  rw [Sp.nodes_cons] at hl
  have hl' : l.length + 2321 * Sp.nodes ks + 2321 ≤ 7000000 := by simp [Sp.nodes] at hl; omega
  clear hl
  rw [NodesAt_cons] at hn
  obtain ⟨⟨q, lv, qs, h1, h2, h3, h4, h5, h6⟩, _⟩ := hn
  rcases h1 with ⟨hm, rfl⟩ | ⟨hm, hp, l1, ht1, ho1, hl1⟩
  · have e : Sp.text ⟨a, ks⟩ = Sp.bare1 a (Sp.texts (a.kind == 4) true ks) := by
      unfold Sp.text Sp.bareT Sp.cnt; rw [if_pos hm, List.append_nil]
    rw [e]
    exact pbare_any a ks ha hnum hw q b l _ lv qs w h hl' h2 h3 h4 h5 h6 hql
  · have e : Sp.text ⟨a, ks⟩ = Sp.bare1 a (Sp.texts (a.kind == 4) true ks) ++ cntMN a.min a.max := rfl
    obtain ⟨new, HNW⟩ : ∃ new, Hid (new = Sp.bare1 a (Sp.texts (a.kind == 4) true ks)) := ⟨_, (rfl : Sp.bare1 a (Sp.texts (a.kind == 4) true ks) = _)⟩
    rw [e, ← HNW.out]
    have hnew : new.length ≤ 2320 * Sp.nodes ks + 2310 := by
      rw [HNW.out]; have g1 := Sp.bare1_le a (Sp.texts (a.kind == 4) true ks); have g2 := Sp.texts_le (a.kind == 4) ks true; omega
    obtain ⟨g, cap, hlv, hgc⟩ : ∃ g cap, l1 = .slice (some ⟨g, 0, none⟩) 1 cap ∧ w.cell? ⟨g, 0, none⟩ = some (.pointer (some ⟨q, 0, none⟩)) := by
      rcases own_cells (qs := [q]) ho1 with ⟨_, hqs⟩ | ⟨g, cap, hl', _, _, hcell⟩
      · cases hqs
      · exact ⟨g, cap, hl', hcell 0 q rfl⟩
    have c0 : w.cell? ⟨p, 0, none⟩ = some (.int .i64 4) := ht1.facts.c0
    have c2 : w.cell? ⟨p, 2, none⟩ = some (.slice (some ⟨g, 0, none⟩) 1 cap) := by rw [← hlv]; exact ht1.facts.c2
    have C10 : Hid (w.cell? ⟨p, 10, none⟩ = some (.int .i64 a.min)) := ht1.facts.c10
    have C11 : Hid (w.cell? ⟨p, 11, none⟩ = some (.int .i64 a.max)) := ht1.facts.c11
    have HP : Hid (Calls Tryd.prog 16 #[.pointer (some ⟨b, 0, none⟩), .pointer (some ⟨q, 0, none⟩)] w (PrOut b l new w)) := by
      rw [HNW.out]; exact pbare_any a ks ha hnum hw q b l _ lv qs w h hl' h2 h3 h4 h5 h6 hql
    have hp' : p < b := hp
    have m0 : 0 ≤ a.min := hm
    have m1 := ha.min1
    have n0 := ha.max0
    have n1 := ha.max1
    clear h h2 h3 h4 h5 h6 ht1 ho1 hl1 hw hnum ha e hlv HNW hm hp
    go_enter Tryd.func16, Tryd.ntmps16
    go_wp2_with fail
    refine HP.out.mono ?_
    rintro e w1 ⟨rfl, hb1, hu1⟩
    have HB1 : Hid (BdAt w1 b (l ++ new)) := hb1
    have HU1 : Hid (Below b w w1) := hu1
    have d10 : w1.cell? ⟨p, 10, none⟩ = some (.int .i64 a.min) := (cell_same (hu1.block p hp') 10).trans C10.out
    have d11 : w1.cell? ⟨p, 11, none⟩ = some (.int .i64 a.max) := (cell_same (hu1.block p hp') 11).trans C11.out
    clear hb1 hu1 c0 c2 hgc
    go_wp2_with fail
    have hln : (l ++ new).length ≤ 8000000 := by simp; omega
    go_region_with (go_at_call 32; refine (prCount_any b (l ++ new) a.min a.max _ (by exact HB1.out) hln m0 m1 n0 n1).mono ?_; rintro e w2 ⟨rfl, hb2, hu2⟩; have HX2 : Hid (BdAt w2 b (l ++ (new ++ cntMN a.min a.max)) ∧ Below b w w2) := ⟨by rw [← List.append_assoc]; exact hb2, HU1.out.trans ⟨hu2.os, hu2.tape, hu2.output, hu2.size, hu2.block⟩⟩; clear hb2 hu2)
    all_goals go_wp2_with fail
    all_goals go_end0
    all_goals exact ⟨rfl, HX2.out.1, HX2.out.2⟩

theorem pfew_mem : ∀ (l : List Tr) (t : Tr), Few l → t ∈ l → t.kids.length ≤ 1000
  | [], t, _, h => by simp at h
  | u :: r, t, h, k => by
    rw [Sp.Few_cons] at h
    rcases List.mem_cons.1 k with rfl | k
    · exact h.1
    · exact pfew_mem r t h.2.2 k
theorem write_all : ∀ (ts : List Tr), Sp.TrsOK ts → Nums ts → Few ts → ∀ (i : Nat) t, ts[i]? = some t → t.kids.length ≤ 1000 → WriteC t
  | [], _, _, _, i, t, h, _ => by simp at h
  | ⟨a, ks⟩ :: r, h1, h2, h3, i, t, h, hl => by
    rw [Sp.TrsOK_cons] at h1
    rw [Nums_cons] at h2
    rw [Sp.Few_cons] at h3
    cases i with
    | zero =>
      simp at h; subst h
      exact write_core a ks h1.1 h2.1 (fun k t ht => write_all ks h1.2.1 h2.2.1 h3.2.1 k t ht (pfew_mem ks t h3.2.1 (List.mem_of_getElem? ht))) h3.1
    | succ i => simp at h; exact write_all r h1.2.2 h2.2.2 h3.2.2 i t h hl
end Go.Proofs.YtadmlifmcdnhnaaDoor

/- An error has a number that is not 0: no program is named here. -/
set_option linter.unusedSimpArgs false
set_option linter.unusedVariables false
namespace Go.Proofs.YtadmlifmcdnhnaaDoor
namespace Sp

theorem number_code {m : Int} {s : ByteArray} {i : Nat} {e a : Int} (h : number m s i = .error (e, a)) : e ≠ 0 := by
  unfold number at h; split at h
  · split at h
    · cases h; decide
    · cases h
  · cases h; decide
theorem need_code {c : Int} {s : ByteArray} {i : Nat} {e a : Int} (h : need c s i = .error (e, a)) : e ≠ 0 := by
  unfold need at h; split at h
  · cases h
  · cases h; decide
theorem bounds_code {s : ByteArray} {i : Nat} {e a : Int} (h : bounds s i = .error (e, a)) : e ≠ 0 := by
  unfold bounds at h
  cases h1 : number 0 s i with
  | error f => rw [h1] at h; cases h; exact number_code h1
  | ok p =>
    obtain ⟨m, j⟩ := p
    rw [h1] at h; simp only at h
    split at h
    · split at h
      · cases h2 : number m s (j + 1) with
        | error f => rw [h2] at h; cases h; exact number_code h2
        | ok p =>
          obtain ⟨n, k⟩ := p
          rw [h2] at h; simp only at h
          cases h3 : need 125 s k with
          | error f => rw [h3] at h; cases h; exact need_code h3
          | ok l => rw [h3] at h; cases h
      · cases h3 : need 125 s (j + 1) with
        | error f => rw [h3] at h; cases h; exact need_code h3
        | ok l => rw [h3] at h; cases h
    · cases h3 : need 125 s j with
      | error f => rw [h3] at h; cases h; exact need_code h3
      | ok l => rw [h3] at h; cases h
theorem count_code {s : ByteArray} {i : Nat} {e a : Int} (h : count s i = .error (e, a)) : e ≠ 0 := by
  unfold count at h
  split at h
  · cases h
  · split at h
    · cases h
    · split at h
      · cases h
      · split at h
        · exact bounds_code h
        · cases h
theorem byteBut_code {l : Bool} {s : ByteArray} {i : Nat} {e a : Int} (h : byteBut l s i = .error (e, a)) : e ≠ 0 := by rw [byteBut_err h]; decide
theorem item_code {s : ByteArray} {i : Nat} {e a : Int} (h : item s i = .error (e, a)) : e ≠ 0 := by
  unfold item at h
  cases h1 : byteBut true s i with
  | error f => rw [h1] at h; cases h; exact byteBut_code h1
  | ok p =>
    obtain ⟨b, j⟩ := p
    rw [h1] at h; simp only at h
    split at h
    · cases h2 : byteBut true s (j + 1) with
      | error f => rw [h2] at h; cases h; exact byteBut_code h2
      | ok p =>
        obtain ⟨c, k⟩ := p
        rw [h2] at h; simp only at h
        split at h
        · cases h; decide
        · cases h
    · cases h
theorem items_code {s : ByteArray} : ∀ {n : Nat} {set : Nat → Bool} {i : Nat} {e a : Int}, items s n set i = .error (e, a) → e ≠ 0
  | 0, _, _, _, _, h => by cases h; decide
  | n + 1, set, i, e, a, h => by
    unfold items at h
    cases h1 : item s i with
    | error f => rw [h1] at h; cases h; exact item_code h1
    | ok p =>
      obtain ⟨b, c, j⟩ := p
      rw [h1] at h; simp only at h
      split at h
      · cases h
      · exact items_code h
theorem list_code {s : ByteArray} {i : Nat} {e a : Int} (h : list s i = .error (e, a)) : e ≠ 0 := by
  unfold list at h
  simp only at h
  cases h1 : items s (s.size + 1) (fun _ => false) (if isAt s i 94 = true then i + 1 else i) with
  | error f => simp only [h1] at h; cases h; exact items_code h1
  | ok p => obtain ⟨set, k⟩ := p; simp only [h1] at h; cases h
theorem head_code {s : ByteArray} {d : Nat} {x : At} {e a : Int} (h : head s d x = .error (e, a)) : e ≠ 0 := by
  unfold head at h
  split at h
  · cases h; decide
  · split at h
    · cases h1 : need 58 s (x.i + 2) with
      | error f => rw [h1] at h; cases h; exact need_code h1
      | ok j => rw [h1] at h; cases h
    · split at h
      · cases h; decide
      · cases h
def CodeF (f : At → Res (Tr × At)) : Prop := ∀ x e a, f x = .error (e, a) → e ≠ 0
theorem group_code {sub : At → Res (Tr × At)} (hs : CodeF sub) {s : ByteArray} {d : Nat} {x : At} {e a : Int} (h : group sub s d x = .error (e, a)) : e ≠ 0 := by
  unfold group at h
  cases h1 : head s d x with
  | error f => rw [h1] at h; cases h; exact head_code h1
  | ok p =>
    obtain ⟨k, y⟩ := p
    rw [h1] at h; simp only at h
    cases h2 : sub y with
    | error f => rw [h2] at h; cases h; exact hs _ _ _ h2
    | ok p =>
      obtain ⟨t, z⟩ := p
      rw [h2] at h; simp only at h
      cases h3 : need 41 s z.i with
      | error f => rw [h3] at h; cases h; exact need_code h3
      | ok j => rw [h3] at h; cases h
theorem atom_code {sub : At → Res (Tr × At)} (hs : CodeF sub) {s : ByteArray} {d : Nat} {x : At} {e a : Int} (h : atom sub s d x = .error (e, a)) : e ≠ 0 := by
  unfold atom at h
  split at h
  · exact group_code hs h
  · split at h
    · cases h1 : list s (x.i + 1) with
      | error f => rw [h1] at h; cases h; exact list_code h1
      | ok p => obtain ⟨t, j⟩ := p; rw [h1] at h; cases h
    · split at h
      · cases h
      · cases h1 : byteBut false s x.i with
        | error f => rw [h1] at h; cases h; exact byteBut_code h1
        | ok p => obtain ⟨b, j⟩ := p; rw [h1] at h; cases h
theorem part_code {sub : At → Res (Tr × At)} (hs : CodeF sub) {s : ByteArray} {d : Nat} {x : At} {e a : Int} (h : part sub s d x = .error (e, a)) : e ≠ 0 := by
  unfold part at h
  cases h1 : atom sub s d x with
  | error f => rw [h1] at h; cases h; exact atom_code hs h1
  | ok p =>
    obtain ⟨t, y⟩ := p
    rw [h1] at h; simp only at h
    cases h2 : count s y.i with
    | error f => rw [h2] at h; cases h; exact count_code h2
    | ok p => obtain ⟨m, n, j⟩ := p; rw [h2] at h; cases h
theorem parts_code {sub : At → Res (Tr × At)} (hs : CodeF sub) {s : ByteArray} {d : Nat} : ∀ {n : Nat} {l : List Tr} {x : At} {e a : Int}, parts sub s d n l x = .error (e, a) → e ≠ 0
  | 0, _, _, _, _, h => by cases h; decide
  | n + 1, l, x, e, a, h => by
    unfold parts at h
    split at h
    · cases h
    · cases h1 : part sub s d x with
      | error f => rw [h1] at h; cases h; exact part_code hs h1
      | ok p => obtain ⟨t, y⟩ := p; rw [h1] at h; exact parts_code hs h
theorem row_code {sub : At → Res (Tr × At)} (hs : CodeF sub) {s : ByteArray} {d : Nat} : CodeF (row sub s d) := by
  intro x e a h
  unfold row at h
  cases h1 : parts sub s d (s.size + 1) [] x with
  | error f => rw [h1] at h; cases h; exact parts_code hs h1
  | ok p => obtain ⟨l, y⟩ := p; rw [h1] at h; cases h
theorem rows_code {sub : At → Res (Tr × At)} (hs : CodeF sub) {s : ByteArray} {d : Nat} : ∀ {n : Nat} {l : List Tr} {x : At} {e a : Int}, rows sub s d n l x = .error (e, a) → e ≠ 0
  | 0, _, _, _, _, h => by cases h; decide
  | n + 1, l, x, e, a, h => by
    unfold rows at h
    cases h1 : row sub s d x with
    | error f => rw [h1] at h; cases h; exact row_code hs _ _ _ h1
    | ok p =>
      obtain ⟨t, y⟩ := p
      rw [h1] at h; simp only at h
      split at h
      · exact rows_code hs h
      · cases h
theorem choice_code (s : ByteArray) : ∀ k, CodeF (choice s k)
  | 0 => by intro x e a h; cases h; decide
  | k + 1 => by
    intro x e a h
    unfold choice at h
    cases h1 : rows (choice s k) s (8 - k) (s.size + 1) [] x with
    | error f => rw [h1] at h; cases h; exact rows_code (choice_code s k) h1
    | ok p => obtain ⟨l, y⟩ := p; rw [h1] at h; cases h
theorem read_code {s : ByteArray} {e a : Int} (h : read s = .error (e, a)) : e ≠ 0 := by
  unfold read at h
  split at h
  · cases h; decide
  · cases h1 : choice s 9 ⟨0, 0⟩ with
    | error f => rw [h1] at h; cases h; exact choice_code s 9 _ _ _ h1
    | ok p =>
      obtain ⟨t, y⟩ := p
      rw [h1] at h; simp only at h
      split at h
      · cases h; decide
      · split at h
        · cases h; decide
        · cases h
end Sp
end Go.Proofs.YtadmlifmcdnhnaaDoor

set_option linter.unusedSimpArgs false
set_option linter.unusedVariables false
namespace Go.Proofs.YtadmlifmcdnhnaaDoor
open Go.RowKit

theorem Sp.read_made {s : ByteArray} {t : Tr} {n : Int} (h : Sp.read s = .ok (t, n)) : Sp.Made [t] := by
  unfold Sp.read at h
  split at h
  · cases h
  · rename_i hz
    cases h1 : Sp.choice s 9 ⟨0, 0⟩ with
    | error f => simp [h1] at h
    | ok v =>
      obtain ⟨t', y⟩ := v
      simp only [h1] at h
      split at h
      · cases h
      · split at h
        · cases h
        · cases h; exact Sp.choice_makes s (by omega) 9 _ _ _ h1 (by simp) (by simp) (by simp)

theorem BdAt.new {w : World} {b : Nat} {c : Array Value} (hc : c = #[.pointer none, .slice none 0 0]) (hb : b = w.heap.size) : BdAt (w.alloc (.cells c 69)) b [] := by
  subst hc hb
  exact Or.inl ⟨Nat.le_refl _, .slice none 0 0, by show (w.heap.push _)[w.heap.size]? = _; simp, World.ownsRow_nil _ _ _ _, by simp [Value.ownBlock]⟩
theorem Upd.of_below {w w' : World} (h : Below w.heap.size w w') : Upd [] w w' := ⟨h.os, h.tape, h.output, h.size, fun k hk _ => h.block k hk⟩

set_option maxHeartbeats 800000 in
theorem pPrint_any (p : Nat) (t : Tr) (S : Nat → Prop) (w : World) (hn : NodesAt w S [p] [t]) (hw : WriteC t) (hc : Sp.nodes [t] ≤ 1000) :
    Calls Tryd.prog 11 #[.pointer (some ⟨p, 0, none⟩)] w fun e w' => e = .returned (.string (str (Sp.text t))) ∧ Upd [] w w' := by
  have HN : Hid (NodesAt (w.alloc (.cells #[.pointer none, .slice none 0 0] 69)) (fun k => k < w.heap.size) [p] [t]) :=
    NodesAt.same _ _ (NodesAt.mono _ _ hn (fun k _ hk => hk)) (fun k hk _ => Below.heap_alloc _ _ _ hk)
  have HB : Hid (BdAt (w.alloc (.cells #[.pointer none, .slice none 0 0] 69)) w.heap.size []) := BdAt.new rfl rfl
  have HW : Hid (WriteC t) := hw
  clear hn hw
  go_enter Tryd.func11, Tryd.ntmps11
  go_wp2_with fail
  refine (HW.out p w.heap.size [] _ (by exact HB.out) (by simp; omega) (by exact HN.out)).mono ?_
  rintro e w1 ⟨rfl, hb1, hu1⟩
  have HB1 : Hid (BdAt w1 w.heap.size (Sp.text t)) := hb1
  have HU1 : Hid (Below w.heap.size w w1) := ((Below.refl w.heap.size w).alloc (Nat.le_refl _) _).trans hu1
  clear hb1 hu1
  go_wp2_with fail
  refine (bstr_any w.heap.size (Sp.text t) _ (by exact HB1.out)).mono ?_
  rintro e w2 ⟨rfl, hu2⟩
  go_wp2_with fail
  go_ret
  exact ⟨rfl, Upd.of_below (HU1.out.trans hu2)⟩

set_option maxHeartbeats 800000 in
theorem sPrint_any (s : ByteArray) (w : World) :
    Calls Tryd.prog 4 #[.string s] w (PrintOut s w) := by
  cases hr : Sp.read s with
  | error p =>
    obtain ⟨e1, a1⟩ := p
    have he : e1 ≠ 0 := Sp.read_code hr
    have hb : (e1 != 0) = true := by simpa using he
    have HR : Hid (Sp.read s = .error (e1, a1)) := hr
    have HP : Hid (printR s = ([], e1, a1)) := by show _ = _; unfold printR; rw [hr]
    clear hr he
    unfold PrintOut
    rw [HP.out]
    go_enter Tryd.func4, Tryd.ntmps4
    go_wp2_with fail
    refine (pRead_any s _).mono ?_
    rw [HR.out]
    rintro e w1 ⟨hu1, rfl⟩
    have HU1 : Hid (Upd [] w w1) := hu1
    clear hu1
    go_wp2_with fail
    go_quiet (fail)
    go_wp2_with fail
    go_ret3
    exact ⟨rfl, by refine HU1.out.trans ?_; (repeat (first | exact Upd.refl _ _ | refine Upd.drewN ?_ | refine Upd.drew ?_ | refine Upd.setCell ?_ (by simp) _ | refine Upd.alloc ?_ _))⟩
  | ok p =>
    obtain ⟨t, n⟩ := p
    have HR : Hid (Sp.read s = .ok (t, n)) := hr
    have HP : Hid (printR s = (Sp.text t, 0, 0)) := by show _ = _; unfold printR; rw [hr]
    have hm := Sp.read_made hr
    have HW : Hid (WriteC t) := write_all [t] hm.1 (Sp.read_nums hr) hm.2 0 t rfl (Sp.Made.lab hm).2.2
    have hc : Sp.nodes [t] ≤ 1000 := by have := Sp.read_nods hr; omega
    clear hr hm
    unfold PrintOut
    rw [HP.out]
    obtain ⟨tx, HTX⟩ : ∃ tx, Hid (tx = Sp.text t) := ⟨_, (rfl : Sp.text t = _)⟩
    rw [← HTX.out]
    go_enter Tryd.func4, Tryd.ntmps4
    go_wp2_with fail
    refine (pRead_any s _).mono ?_
    rw [HR.out]
    rintro e w1 ⟨hu1, p, rfl, hn1⟩
    have HU1 : Hid (Upd [] w w1) := hu1
    have HN1 : Hid (NodesAt w1 (fun k => k < w1.heap.size) [p] [t]) := NodesAt.mono _ _ hn1 (fun k _ hk => hk)
    clear hu1 hn1
    unfold ptr
    go_wp2_with fail
    refine (pPrint_any p t _ _ (by exact NodesAt.same _ _ HN1.out (fun k hk _ => Below.heap_alloc _ _ _ hk)) HW.out hc).mono ?_
    rw [← HTX.out]
    rintro e w2 ⟨rfl, hu2⟩
    have HU2 : Hid (Upd [] w w2) := (HU1.out.alloc _).trans hu2
    clear hu2
    go_wp2_with fail
    go_ret3
    exact ⟨rfl, HU2.out⟩

/-- The program's pattern: its tree's root; how many groups are told. -/
def PpAt (w : World) (p root : Nat) (n : Int) : Prop := w.heap[p]? = some (.cells #[ptr root, .int .i64 n] 50 (0, 0))
theorem PpAt.new {w : World} {p root : Nat} {n : Int} {c : Array Value} (hc : c = #[ptr root, .int .i64 n]) (hp : p = w.heap.size) : PpAt (w.alloc (.cells c 50)) p root n := by
  subst hc hp; show (w.heap.push _)[w.heap.size]? = _; simp
def PCompileOut (s : ByteArray) (w : World) (e : Ending) (w' : World) : Prop := Upd [] w w' ∧ match Sp.read s with
  | .ok (t, n) => ∃ p root, e = .returned (.tuple #[.pointer (some ⟨p, 0, none⟩), .int .i64 0, .int .i64 0]) ∧ w.heap.size ≤ p ∧ PpAt w' p root n ∧ NodesAt w' (fun k => w.heap.size ≤ k ∧ k < w'.heap.size ∧ k ≠ p) [root] [t]
  | .error (e1, a1) => e = .returned (.tuple #[.pointer none, .int .i64 e1, .int .i64 a1])

set_option maxHeartbeats 800000 in
theorem sCompile_any (s : ByteArray) (w : World) :
    Calls Tryd.prog 6 #[.string s] w (PCompileOut s w) := by
  cases hr : Sp.read s with
  | error p =>
    obtain ⟨e1, a1⟩ := p
    have he : e1 ≠ 0 := Sp.read_code hr
    have hb : (e1 != 0) = true := by simpa using he
    have HR : Hid (Sp.read s = .error (e1, a1)) := hr
    clear hr he
    unfold PCompileOut
    rw [HR.out]
    go_enter Tryd.func6, Tryd.ntmps6
    go_wp2_with fail
    refine (pRead_any s _).mono ?_
    rw [HR.out]
    rintro e w1 ⟨hu1, rfl⟩
    have HU1 : Hid (Upd [] w w1) := hu1
    clear hu1
    go_wp2_with fail
    go_quiet (fail)
    go_wp2_with fail
    go_ret3
    exact ⟨by refine HU1.out.trans ?_; (repeat (first | exact Upd.refl _ _ | refine Upd.drewN ?_ | refine Upd.drew ?_ | refine Upd.setCell ?_ (by simp) _ | refine Upd.alloc ?_ _)), rfl⟩
  | ok p =>
    obtain ⟨t, n⟩ := p
    have HR : Hid (Sp.read s = .ok (t, n)) := hr
    clear hr
    unfold PCompileOut
    rw [HR.out]
    go_enter Tryd.func6, Tryd.ntmps6
    go_wp2_with fail
    refine (pRead_any s _).mono ?_
    rw [HR.out]
    rintro e w1 ⟨hu1, p, rfl, hn1⟩
    have HU1 : Hid (Upd [] w w1) := hu1
    have HN1 : Hid (NodesAt w1 (fun k => w.heap.size ≤ k ∧ k < w1.heap.size) [p] [t]) := NodesAt.mono _ _ hn1 (fun k h1 hk => ⟨h1, hk⟩)
    have hsz := hu1.size
    clear hu1 hn1
    unfold ptr
    go_wp2_with fail
    go_ret3
    refine ⟨by refine HU1.out.trans ?_; (repeat (first | exact Upd.refl _ _ | refine Upd.drewN ?_ | refine Upd.drew ?_ | refine Upd.setCell ?_ (by simp) _ | refine Upd.alloc ?_ _)), _, p, rfl, ?_, PpAt.new rfl ?_, ?_⟩
    · omega
    · simp
    · refine NodesAt.mono _ _ (NodesAt.same _ _ HN1.out (fun k hk _ => ?_)) (fun k hk _ => ⟨hk.1, by simp; omega, by omega⟩)
      rw [Below.heap_alloc _ _ _ (by simp; omega), Below.heap_alloc _ _ _ (by omega)]

theorem sGroups_any (p root : Nat) (n : Int) (w : World) (h : PpAt w p root n) :
    Calls Tryd.prog 8 #[.pointer (some ⟨p, 0, none⟩)] w (fun e w' => e = .returned (.tuple #[.int .i64 n, .int .i64 0]) ∧ w' = w) := by
  have c1 : w.cell? ⟨p, 1, none⟩ = some (.int .i64 n) := by unfold PpAt at h; simp [World.cell?, h]
  clear h
  go_enter Tryd.func8, Tryd.ntmps8
  go_wp2_with fail
  go_ret2
  exact ⟨rfl, rfl⟩
theorem sGroups_nil (w : World) :
    Calls Tryd.prog 8 #[.pointer none] w (fun e w' => e = .returned (.tuple #[.int .i64 0, .int .i64 1]) ∧ w' = w) := by
  go_enter Tryd.func8, Tryd.ntmps8
  go_wp2_with fail
  go_ret2
  exact ⟨rfl, rfl⟩
theorem refGroups_nil (w : World) :
    Calls Tryd.prog 9 #[.pointer none] w (fun e w' => e = .returned (.tuple #[.int .i64 0, .int .i64 1]) ∧ w' = w) := by
  go_enter Tryd.func9, Tryd.ntmps9
  go_wp2_with fail
  go_ret2
  exact ⟨rfl, rfl⟩
end Go.Proofs.YtadmlifmcdnhnaaDoor

set_option linter.unusedSimpArgs false
set_option linter.unusedVariables false
namespace Go.Proofs.YtadmlifmcdnhnaaDoor
open Go.RowKit

def lit1 : ByteArray := ⟨#[91, 97, 45, 99, 98, 92, 45, 93, 123, 49, 44, 125, 124]⟩
def lit2 : ByteArray := ⟨#[97, 123, 50, 44, 49, 125]⟩
def lab1 : Lab := { Sp.blank with kind := 2, set := Sp.add (Sp.add (Sp.add (fun _ => false) 97 99) 98 98) 45 45, not := false, min := 1, max := -1 }
def tree1 : Tr := ⟨cLab, [⟨rLab, [⟨lab1, []⟩]⟩, ⟨rLab, []⟩]⟩
theorem choice1 : Sp.choice lit1 9 ⟨0, 0⟩ = .ok (tree1, ⟨13, 0⟩) := by kernel_rfl
theorem size1 : Sp.size tree1 = 1 := by
  unfold tree1 Sp.size
  simp only [Sp.sizes]
  kernel_rfl
theorem text1 : Sp.text tree1 = [91, 92, 45, 97, 45, 99, 93, 43, 124] := by
  unfold tree1 Sp.text Sp.bareT
  simp only [Sp.texts]
  kernel_rfl
theorem print1 : printR lit1 = ([91, 92, 45, 97, 45, 99, 93, 43, 124], 0, 0) := by
  unfold printR Sp.read
  rw [if_neg (by decide), choice1]
  simp only
  rw [if_neg (by decide), size1, if_neg (by decide)]
  simp only
  rw [text1]
theorem print2 : printR lit2 = ([], 4, 4) := by kernel_rfl
end Go.Proofs.YtadmlifmcdnhnaaDoor

set_option linter.unusedSimpArgs false
set_option linter.unusedVariables false
namespace Go.Proofs.YtadmlifmcdnhnaaDoor
open Go.RowKit

theorem PpAt.upd {w w' : World} {p root : Nat} {n : Int} (h : PpAt w p root n) (u : Upd [] w w') : PpAt w' p root n := by
  unfold PpAt at *; rw [u.block p (lt_of_heap h) (by simp)]; exact h

theorem str1 : ((str [91, 92, 45, 97, 45, 99, 93, 43, 124]).toList == [91, 92, 45, 97, 45, 99, 93, 43, 124]) = true := by kernel_rfl
theorem str2 : (str []).toList.isEmpty = true := by kernel_rfl

set_option maxHeartbeats 2000000 in
theorem prints_walk (s : ByteArray) (w : World) :
    Calls Tryd.prog 3 #[.string s] w fun e w' => e = .returned (.bool true) ∧ Upd [] w w' := by
  have k1 := str1
  have k2 := str2
  go_enter Tryd.func3, Tryd.ntmps3
  go_wp2_with fail
  refine (sPrint_any lit1 _).mono ?_
  rintro e w1 ⟨he, hu1⟩
  rw [he, print1]
  have HU1 : Hid (Upd [] w w1) := hu1
  clear hu1 he
  go_wp2_with fail
  refine (sPrint_any lit2 _).mono ?_
  rintro e w2 ⟨he, hu2⟩
  rw [he, print2]
  have HU2 : Hid (Upd [] w w2) := HU1.out.trans hu2
  clear hu2 he
  obtain ⟨X, HX⟩ : ∃ X, Hid (X = str (printR s).1) := ⟨_, (rfl : str (printR s).1 = _)⟩
  cases hr : Sp.read s with
  | error p =>
    obtain ⟨e1, a1⟩ := p
    have HR : Hid (Sp.read s = .error (e1, a1)) := hr
    have HP : Hid ((printR s).2.1 = e1 ∧ (printR s).2.2 = a1) := by unfold printR; rw [hr]; exact ⟨rfl, rfl⟩
    clear hr
    go_wp2_with fail
    clear k1 k2
    refine (sPrint_any s _).mono ?_
    unfold PrintOut
    rw [HP.out.1, HP.out.2, ← HX.out]
    rintro e w3 ⟨rfl, hu3⟩
    have HU3 : Hid (Upd [] w w3) := HU2.out.trans hu3
    clear hu3
    go_wp2_with fail
    refine (refPrint s _).mono ?_
    unfold PrintOut
    rw [HP.out.1, HP.out.2, ← HX.out]
    rintro e w4 ⟨rfl, hu4⟩
    have HU4 : Hid (Upd [] w w4) := HU3.out.trans hu4
    clear hu4
    go_wp2_with fail
    refine (sCompile_any s _).mono ?_
    unfold PCompileOut
    rw [HR.out]
    rintro e w5 ⟨hu5, rfl⟩
    have HU5 : Hid (Upd [] w w5) := HU4.out.trans hu5
    clear hu5
    go_wp2_with fail
    refine (refCompile s _).mono ?_
    unfold CompileOut
    rw [HR.out]
    rintro e w6 ⟨hu6, rfl⟩
    have HU6 : Hid (Upd [] w w6) := HU5.out.trans hu6
    clear hu6
    go_wp2_with fail
    refine (sGroups_nil _).mono ?_
    rintro e w7 ⟨rfl, hw7⟩
    rw [hw7]
    clear hw7 w7
    go_wp2_with fail
    refine (refGroups_nil _).mono ?_
    rintro e w7 ⟨rfl, hw7⟩
    rw [hw7]
    clear hw7 w7
    go_wp2_with fail
    go_ret
    exact ⟨rfl, HU6.out⟩
  | ok p =>
    obtain ⟨t, n⟩ := p
    have HR : Hid (Sp.read s = .ok (t, n)) := hr
    have HP : Hid ((printR s).2.1 = 0 ∧ (printR s).2.2 = 0) := by unfold printR; rw [hr]; exact ⟨rfl, rfl⟩
    have HT : Hid ((Sp.comp t ⟨[], 0⟩).1.told = n) := Sp.read_told hr
    clear hr
    go_wp2_with fail
    clear k1 k2
    refine (sPrint_any s _).mono ?_
    unfold PrintOut
    rw [HP.out.1, HP.out.2, ← HX.out]
    rintro e w3 ⟨rfl, hu3⟩
    have HU3 : Hid (Upd [] w w3) := HU2.out.trans hu3
    clear hu3
    go_wp2_with fail
    refine (refPrint s _).mono ?_
    unfold PrintOut
    rw [HP.out.1, HP.out.2, ← HX.out]
    rintro e w4 ⟨rfl, hu4⟩
    have HU4 : Hid (Upd [] w w4) := HU3.out.trans hu4
    clear hu4
    go_wp2_with fail
    refine (sCompile_any s _).mono ?_
    unfold PCompileOut
    rw [HR.out]
    rintro e w5 ⟨hu5, p, root, rfl, hp5, hpat, _⟩
    have HU5 : Hid (Upd [] w w5) := HU4.out.trans hu5
    have HPT : Hid (PpAt w5 p root n) := hpat
    clear hu5 hpat
    go_wp2_with fail
    refine (refCompile s _).mono ?_
    unfold CompileOut
    rw [HR.out]
    rintro e w6 ⟨hu6, q, rfl, hq6, hcp⟩
    have HU6 : Hid (Upd [] w w6) := HU5.out.trans hu6
    have HP6 : Hid (PpAt w6 p root n) := HPT.out.upd hu6
    have HC6 : Hid (CpAt w6 q (Sp.comp t ⟨[], 0⟩).1 (Sp.comp t ⟨[], 0⟩).2) := hcp
    clear hu6 hcp HPT
    go_wp2_with fail
    refine (sGroups_any p root n _ (by exact HP6.out)).mono ?_
    rintro e w7 ⟨rfl, hw7⟩
    rw [hw7]
    clear hw7 w7
    go_wp2_with fail
    refine (refGroups q _ _ _ (by exact HC6.out)).mono ?_
    rw [HT.out]
    rintro e w7 ⟨rfl, n7, hw7⟩
    rw [hw7]
    clear hw7 w7
    go_wp2_with fail
    go_ret
    exact ⟨rfl, HU6.out.drewN⟩
end Go.Proofs.YtadmlifmcdnhnaaDoor
