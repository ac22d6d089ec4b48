import Derived.Test.YtcpfpnjkfahjcaaDoorH16
set_option linter.unusedSimpArgs false
set_option linter.unusedVariables false
namespace Go.Proofs.YtcpfpnjkfahjcaaDoor
open Go.RowKit

theorem NodesAt.below {w w' : World} {b : Nat} {ps : List Nat} {ts : List Tr} (h : NodesAt w (fun k => k < b) ps ts) (hb : Below b w w') : NodesAt w' (fun k => k < b) ps ts :=
  NodesAt.same ps ts h (fun k hk _ => hb.block k hk)

/-- Writing a tree. -/
def WriteC (t : Tr) : Prop := ∀ (p b : Nat) (l : List UInt8) (w : World), BdAt w b l → l.length + 2321 * Sp.nodes [t] ≤ 7000000 → NodesAt w (fun k => k < b) [p] [t] →
  Calls Tryd.prog 16 #[.pointer (some ⟨b, 0, none⟩), .pointer (some ⟨p, 0, none⟩)] w (PrOut b l (Sp.text t) w)

def between (bar : Bool) : ByteArray := if bar then ⟨#[124]⟩ else ⟨#[]⟩
theorem between_list (bar : Bool) : (between bar).data.toList = if bar then [124] else [] := by cases bar <;> rfl

structure PAllInv (b : Nat) (l : List UInt8) (bar : Bool) (qs : List Nat) (ks : List Tr) (w : World) (gn : Nat) (v : Value) (wr : World) : Prop where
  st : ∃ k : Nat, v = .int .i64 k ∧ k + gn = qs.length ∧ BdAt wr b (l ++ Sp.texts bar true (ks.take k)) ∧ Below b w wr

theorem pnodes_take (ks : List Tr) (k : Nat) : Sp.nodes (ks.take k) ≤ Sp.nodes ks := by
  have h := Sp.nodes_append (ks.take k) (ks.drop k)
  rw [List.take_append_drop] at h; omega
theorem pnodes_get {ks : List Tr} {k : Nat} {t : Tr} (h : ks[k]? = some t) : Sp.nodes (ks.take k) + Sp.nodes [t] ≤ Sp.nodes ks := by
  have h1 := pnodes_take ks (k + 1)
  rw [take_get h, Sp.nodes_append] at h1; exact h1

set_option maxHeartbeats 2000000 in
theorem prAll_some (b : Nat) (l : List UInt8) (bar : Bool) (g cap : Nat) (qs : List Nat) (ks : List Tr) (w : World) (h : BdAt w b l) (hl : l.length + 2321 * Sp.nodes ks ≤ 7000000) (hn : NodesAt w (fun k => k < b) qs ks) (hg : g < b) (hcell : ∀ k q, qs[k]? = some q → w.cell? ⟨g, k, none⟩ = some (ptr q)) (hw : ∀ (k : Nat) t, ks[k]? = some t → WriteC t) (hql : qs.length ≤ 1000) :
    Calls Tryd.prog 33 #[.pointer (some ⟨b, 0, none⟩), .string (between bar), .slice (some ⟨g, 0, none⟩) qs.length cap] w (PrOut b l (Sp.texts bar true ks) w) := by
  have hh : Hid (BdAt w b l) := h
  have HN : Hid (NodesAt w (fun k => k < b) qs ks) := hn
  have HL : Hid (qs.length = ks.length) := NodesAt.length _ _ hn
  have HC : Hid (∀ k q, qs[k]? = some q → w.cell? ⟨g, k, none⟩ = some (ptr q)) := hcell
  have HW : Hid (∀ (k : Nat) t, ks[k]? = some t → WriteC t) := hw
  obtain ⟨bs, HBS⟩ : ∃ bs, Hid (bs = between bar) := ⟨between bar, (rfl : between bar = _)⟩
  rw [← HBS.out]
  clear h hn hcell hw
  go_enter Tryd.func33, Tryd.ntmps33
  go_wp2_with fail
  go_loopg [10] qs.length (fun gn v wr => PAllInv b l bar qs ks w gn v wr)
  case atStart => exact ⟨0, rfl, by omega, by simpa [Sp.texts] using hh.out, Below.refl _ _⟩
  case round =>
    obtain ⟨k, rfl, hgn, hb, hu⟩ := hrel.st
    clear hh hrel
    have HB : Hid (BdAt wr b (l ++ Sp.texts bar true (ks.take k))) := hb
    have HU : Hid (Below b w wr) := hu
    have htl := Sp.texts_le bar (ks.take k) true
    by_cases hlt : k < qs.length
    · obtain ⟨q, hq⟩ : ∃ q, qs[k]? = some q := ⟨_, List.getElem?_eq_getElem hlt⟩
      obtain ⟨t, ht⟩ : ∃ t, ks[k]? = some t := ⟨_, List.getElem?_eq_getElem (by have := HL.out; omega)⟩
      have hc : wr.cell? ⟨g, k, none⟩ = some (.pointer (some ⟨q, 0, none⟩)) := (cell_same (hu.block g hg) k).trans (HC.out k q hq)
      have HT : Hid (NodesAt wr (fun k => k < b) [q] [t]) := (NodesAt.get _ _ HN.out k q t hq ht).below hu
      have HWt : Hid (WriteC t) := HW.out k t ht
      have hng := pnodes_get ht
      have HX : Hid (Sp.texts bar true (ks.take (k + 1)) = Sp.texts bar true (ks.take k) ++ ((if bar && !(ks.take k).isEmpty then [124] else []) ++ Sp.text t)) := by
        show _ = _; rw [take_get ht, Sp.texts_snoc]; simp
      obtain ⟨fuel, rfl⟩ : ∃ n, gk = n + 1 := ⟨gk - 1, by omega⟩
      clear hb hu ht hq
      by_cases hk0 : k = 0
      · subst hk0
        have HX' : Hid (Sp.texts bar true (ks.take (0 + 1)) = Sp.text t) := by show _ = _; rw [HX.out]; simp [Sp.texts]
        have HB' : Hid (BdAt wr b l) := by show BdAt _ _ _; simpa [Sp.texts] using HB.out
        go_wp2_with fail
        refine (HWt.out q b l _ (by exact HB'.out) (by omega) (by exact HT.out)).mono ?_
        rintro e w3 ⟨rfl, hb3, hu3⟩
        have HB3 : Hid (BdAt w3 b (l ++ Sp.texts bar true (ks.take (0 + 1)))) := by rw [HX'.out]; exact hb3
        have HU3 : Hid (Below b w w3) := HU.out.trans hu3
        clear hb3 hu3
        go_wp2_with fail
        go_roundg fuel
        case measure => omega
        case rel => exact ⟨0 + 1, int_eq (by omega), by omega, HB3.out, HU3.out⟩
      · have hk0' : (0 : Int) < k := by omega
        have HX' : Hid (Sp.texts bar true (ks.take (k + 1)) = Sp.texts bar true (ks.take k) ++ ((between bar).data.toList ++ Sp.text t)) := by
          show _ = _; rw [HX.out, between_list]
          have : (ks.take k).isEmpty = false := by
            have := HL.out
            cases hks : ks.take k with
            | nil => have h2 : (ks.take k).length = 0 := by rw [hks]; rfl
                     rw [List.length_take] at h2; omega
            | cons a r => rfl
          rw [this]; cases bar <;> rfl
        have hf1 : 1 ≤ Sp.nodes (ks.take k) := by
          have := Sp.length_le_nodes (ks.take k); have h3 := HL.out; rw [List.length_take] at this; omega
        have hbl : (between bar).data.toList.length ≤ 1 := by rw [between_list]; cases bar <;> simp
        have hbz : (between bar).size ≤ 1 := hbl
        go_wp2_with fail
        refine (ws_any b (l ++ Sp.texts bar true (ks.take k)) bs _ (by exact HB.out) (by simp; omega) (by rw [HBS.out]; omega)).mono ?_
        rintro e w2 ⟨rfl, hb2, hu2⟩
        have HB2 : Hid (BdAt w2 b (l ++ Sp.texts bar true (ks.take k) ++ (between bar).data.toList)) := by rw [← HBS.out]; exact hb2
        have HU2 : Hid (Below b w w2) := HU.out.trans hu2
        have HT2 : Hid (NodesAt w2 (fun k => k < b) [q] [t]) := HT.out.below hu2
        clear hb2 hu2
        go_wp2_with fail
        have hnt : 1 ≤ Sp.nodes [t] := by rw [Sp.nodes_cons]; omega
        refine (HWt.out q b (l ++ Sp.texts bar true (ks.take k) ++ (between bar).data.toList) _ (by exact HB2.out) ?_ (by exact HT2.out)).mono ?_
        · simp only [List.length_append]; omega
        rintro e w3 ⟨rfl, hb3, hu3⟩
        have HB3 : Hid (BdAt w3 b (l ++ Sp.texts bar true (ks.take (k + 1)))) := by show BdAt _ _ _; rw [HX'.out]; simpa using hb3
        have HU3 : Hid (Below b w w3) := HU2.out.trans hu3
        clear hb3 hu3
        go_wp2_with fail
        go_roundg fuel
        case measure => omega
        case rel => exact ⟨k + 1, int_eq (by omega), by omega, HB3.out, HU3.out⟩
    · have HK : Hid (ks.take k = ks) := by show _ = _; have := HL.out; exact List.take_of_length_le (by omega)
      clear hb hu
      go_wp2_with fail
      go_end0
      exact ⟨rfl, by rw [← HK.out]; exact HB.out, HU.out⟩
end Go.Proofs.YtcpfpnjkfahjcaaDoor

set_option linter.unusedSimpArgs false
set_option linter.unusedVariables false
namespace Go.Proofs.YtcpfpnjkfahjcaaDoor
open Go.RowKit

set_option maxHeartbeats 400000 in
theorem prAll_nil (b : Nat) (l : List UInt8) (bs : ByteArray) (w : World) (h : BdAt w b l) :
    Calls Tryd.prog 33 #[.pointer (some ⟨b, 0, none⟩), .string bs, .slice none 0 0] w (PrOut b l [] w) := by
  have hh : Hid (BdAt w b l) := h
  clear h
  go_enter Tryd.func33, Tryd.ntmps33
  go_wp2_with fail
  refine wp_loop_rounds 1 ?_
  rw [rounds_succ]
  go_wp2_with fail
  go_end0
  exact ⟨rfl, by simpa using hh.out, Below.refl _ _⟩

theorem prAll_any (b : Nat) (l : List UInt8) (bar : Bool) (lv : Value) (qs : List Nat) (ks : List Tr) (w : World) (h : BdAt w b l) (hl : l.length + 2321 * Sp.nodes ks ≤ 7000000) (hn : NodesAt w (fun k => k < b) qs ks) (ho : w.ownsRow 0 34 1 lv qs.length (qs.map ptr)) (hg : ∀ g, lv.ownBlock = some g → g < b) (hw : ∀ (k : Nat) t, ks[k]? = some t → WriteC t) (hql : qs.length ≤ 1000) :
    Calls Tryd.prog 33 #[.pointer (some ⟨b, 0, none⟩), .string (between bar), lv] w (PrOut b l (Sp.texts bar true ks) w) := by
  rcases own_cells ho with ⟨hl', hqs⟩ | ⟨g, cap, hl', hcap, hmax, hcell⟩
  · subst hl' hqs
    have hts : ks = [] := List.eq_nil_of_length_eq_zero (by have := NodesAt.length _ _ hn; simpa using this.symm)
    subst hts
    rw [show Sp.texts bar true [] = [] by rw [Sp.texts]]
    exact prAll_nil b l _ w h
  · subst hl'
    exact prAll_some b l bar g cap qs ks w h hl hn (hg g rfl) hcell hw hql

set_option maxHeartbeats 800000 in
theorem prGroup_any (b : Nat) (l : List UInt8) (p q g cap : Nat) (num : Int) (told : Bool) (t : Tr) (w : World) (h : BdAt w b l) (hl : l.length + 2321 * Sp.nodes [t] + 3 ≤ 7000000) (hn : NodesAt w (fun k => k < b) [q] [t]) (hp : p < b) (hg : g < b) (c9 : w.cell? ⟨p, 9, none⟩ = some (.int .i64 num)) (c2 : w.cell? ⟨p, 2, none⟩ = some (.slice (some ⟨g, 0, none⟩) 1 cap)) (cg : w.cell? ⟨g, 0, none⟩ = some (.pointer (some ⟨q, 0, none⟩))) (hw : WriteC t) (ht : told = decide (num ≠ 0)) :
    Calls Tryd.prog 31 #[.pointer (some ⟨b, 0, none⟩), .pointer (some ⟨p, 0, none⟩)] w (PrOut b l ((if told then [40] else [40, 63, 58]) ++ Sp.text t ++ [41]) w) := by
  have hh : Hid (BdAt w b l) := h
  have HN : Hid (NodesAt w (fun k => k < b) [q] [t]) := hn
  have HW : Hid (WriteC t) := hw
  have htx : (Sp.text t).length ≤ 2320 * Sp.nodes [t] := by
    have := Sp.texts_le false [t] true
    rw [Sp.texts_cons] at this; simp [Sp.texts] at this; exact this
  clear h hn hw
  by_cases h0 : num = 0
  · subst h0
    have e : told = false := by rw [ht]; simp
    subst e
    clear ht
    show Calls _ _ _ _ (PrOut b l ([40, 63, 58] ++ Sp.text t ++ [41]) w)
    go_enter Tryd.func31, Tryd.ntmps31
    go_wp2_with fail
    refine (wb_any b l 40 _ (by exact hh.out) (by omega)).mono ?_
    rintro e w1 ⟨rfl, hb1, hu1⟩
    have HB1 : Hid (BdAt w1 b (l ++ [40])) := hb1
    have HU1 : Hid (Below b w w1) := hu1
    have d9 : w1.cell? ⟨p, 9, none⟩ = some (.int .i64 0) := (cell_same (hu1.block p hp) 9).trans c9
    clear hb1 hu1
    go_wp2_with fail
    refine (ws_any b (l ++ [40]) _ _ (by exact HB1.out) (by simp; omega) (by decide)).mono ?_
    rintro e w2 ⟨rfl, hb2, hu2⟩
    have HB2 : Hid (BdAt w2 b (l ++ [40] ++ [63, 58])) := hb2
    have HU2 : Hid (Below b w w2) := HU1.out.trans hu2
    have d2 : w2.cell? ⟨p, 2, none⟩ = some (.slice (some ⟨g, 0, none⟩) 1 cap) := (cell_same (HU2.out.block p hp) 2).trans c2
    have dg : w2.cell? ⟨g, 0, none⟩ = some (.pointer (some ⟨q, 0, none⟩)) := (cell_same (HU2.out.block g hg) 0).trans cg
    clear hb2 hu2 d9 c9 c2 cg
    go_wp2_with fail
    refine (HW.out q b (l ++ [40] ++ [63, 58]) _ (by exact HB2.out) (by simp; omega) (by exact HN.out.below HU2.out)).mono ?_
    rintro e w3 ⟨rfl, hb3, hu3⟩
    have HB3 : Hid (BdAt w3 b (l ++ [40] ++ [63, 58] ++ Sp.text t)) := hb3
    have HU3 : Hid (Below b w w3) := HU2.out.trans hu3
    clear hb3 hu3
    go_wp2_with fail
    refine (wb_any b (l ++ [40] ++ [63, 58] ++ Sp.text t) 41 _ (by exact HB3.out) (by simp; omega)).mono ?_
    rintro e w4 ⟨rfl, hb4, hu4⟩
    go_wp2_with fail
    go_end0
    exact ⟨rfl, by simpa using hb4, HU3.out.trans hu4⟩
  · have e : told = true := by rw [ht]; simp [h0]
    subst e
    have h0' : (num == 0) = false := by simpa using h0
    clear ht
    show Calls _ _ _ _ (PrOut b l ([40] ++ Sp.text t ++ [41]) w)
    go_enter Tryd.func31, Tryd.ntmps31
    go_wp2_with fail
    refine (wb_any b l 40 _ (by exact hh.out) (by omega)).mono ?_
    rintro e w2 ⟨rfl, hb2, hu2⟩
    have HB2 : Hid (BdAt w2 b (l ++ [40])) := hb2
    have HU2 : Hid (Below b w w2) := hu2
    have d9 : w2.cell? ⟨p, 9, none⟩ = some (.int .i64 num) := (cell_same (hu2.block p hp) 9).trans c9
    have d2 : w2.cell? ⟨p, 2, none⟩ = some (.slice (some ⟨g, 0, none⟩) 1 cap) := (cell_same (HU2.out.block p hp) 2).trans c2
    have dg : w2.cell? ⟨g, 0, none⟩ = some (.pointer (some ⟨q, 0, none⟩)) := (cell_same (HU2.out.block g hg) 0).trans cg
    clear hb2 hu2 c9 c2 cg
    go_wp2_with fail
    refine (HW.out q b (l ++ [40]) _ (by exact HB2.out) (by simp; omega) (by exact HN.out.below HU2.out)).mono ?_
    rintro e w3 ⟨rfl, hb3, hu3⟩
    have HB3 : Hid (BdAt w3 b (l ++ [40] ++ Sp.text t)) := hb3
    have HU3 : Hid (Below b w w3) := HU2.out.trans hu3
    clear hb3 hu3
    go_wp2_with fail
    refine (wb_any b (l ++ [40] ++ Sp.text t) 41 _ (by exact HB3.out) (by simp; omega)).mono ?_
    rintro e w4 ⟨rfl, hb4, hu4⟩
    go_wp2_with fail
    go_end0
    exact ⟨rfl, by simpa using hb4, HU3.out.trans hu4⟩


set_option maxHeartbeats 2000000 in
theorem pbare_any (a : Lab) (ks : List Tr) (ha : Sp.LabOK a) (hnum : a.kind = 3 → ks.length = 1 ∧ a.told = decide (a.num ≠ 0)) (hw : ∀ (k : Nat) t, ks[k]? = some t → WriteC t) (p b : Nat) (l : List UInt8) (sz : Int) (lv : Value) (qs : List Nat) (w : World) (h : BdAt w b l) (hl : l.length + 2321 * Sp.nodes ks + 2321 ≤ 7000000)
    (hp : p < b) (ht : TnAt w p (tnOf a sz lv)) (ho : w.ownsRow 0 34 1 lv qs.length (qs.map ptr)) (hg : ∀ g, lv.ownBlock = some g → g < b) (hn : NodesAt w (fun k => k < b) qs ks) (hql : ks.length ≤ 1000) :
    Calls Tryd.prog 16 #[.pointer (some ⟨b, 0, none⟩), .pointer (some ⟨p, 0, none⟩)] w (PrOut b l (Sp.bare1 a (Sp.texts (a.kind == 4) true ks)) w) := by
  have hh : Hid (BdAt w b l) := h
  have HT : Hid (TnAt w p (tnOf a sz lv)) := ht
  have HO : Hid (w.ownsRow 0 34 1 lv qs.length (qs.map ptr)) := ho
  have HG : Hid (∀ g, lv.ownBlock = some g → g < b) := hg
  have HN : Hid (NodesAt w (fun k => k < b) qs ks) := hn
  have HL : Hid (qs.length = ks.length) := NodesAt.length _ _ hn
  have HW : Hid (∀ (k : Nat) t, ks[k]? = some t → WriteC t) := hw
  have f0 := ht.facts.c0
  clear h ht ho hg hn hw
  have hk5 := ha.kind
  rcases (by omega : a.kind = 0 ∨ a.kind = 1 ∨ a.kind = 2 ∨ a.kind = 3 ∨ a.kind = 4 ∨ a.kind = 5) with hk | hk | hk | hk | hk | hk
  · have hb := (ha.byte hk).1
    have c0 : w.cell? ⟨p, 0, none⟩ = some (.int .i64 0) := by simpa [tnOf, kindP, hk] using f0
    have c3 : w.cell? ⟨p, 3, none⟩ = some (.int .u8 a.byte) := by simpa [tnOf, hk] using HT.out.facts.c3
    have HR : Hid (Sp.bare1 a (Sp.texts (a.kind == 4) true ks) = Sp.shown a.byte false) := by show _ = _; unfold Sp.bare1; rw [if_neg (by omega), if_pos hk]
    rw [HR.out]
    clear f0 hk hnum
    go_enter Tryd.func16, Tryd.ntmps16
    go_wp2_with fail
    refine (prByte_any b l false a.byte _ (by exact hh.out) (by omega) (by omega) (by omega)).mono ?_
    rintro e w1 ⟨rfl, hb1, hu1⟩
    go_wp2_with fail
    go_end0
    exact ⟨rfl, hb1, hu1⟩
  · have c0 : w.cell? ⟨p, 0, none⟩ = some (.int .i64 1) := by simpa [tnOf, kindP, hk] using f0
    have HR : Hid (Sp.bare1 a (Sp.texts (a.kind == 4) true ks) = [46]) := by show _ = _; unfold Sp.bare1; rw [if_pos hk]
    rw [HR.out]
    clear f0 hk hnum
    go_enter Tryd.func16, Tryd.ntmps16
    go_wp2_with fail
    refine (wb_any b l 46 _ (by exact hh.out) (by omega)).mono ?_
    rintro e w1 ⟨rfl, hb1, hu1⟩
    go_wp2_with fail
    go_end0
    exact ⟨rfl, hb1, hu1⟩
  · have c0 : w.cell? ⟨p, 0, none⟩ = some (.int .i64 2) := by simpa [tnOf, kindP, hk] using f0
    have HS : Hid (SetIn w p 4 a.set) := ⟨by simpa [tnOf, wordP, hk] using HT.out.facts.c4, by simpa [tnOf, wordP, hk] using HT.out.facts.c5, by simpa [tnOf, wordP, hk] using HT.out.facts.c6, by simpa [tnOf, wordP, hk] using HT.out.facts.c7⟩
    have c8 : w.cell? ⟨p, 8, none⟩ = some (.bool a.not) := by simpa [tnOf, hk] using HT.out.facts.c8
    have HR : Hid (Sp.bare1 a (Sp.texts (a.kind == 4) true ks) = (if a.not then [91, 94] else [91]) ++ Sp.listed a.set ++ [93]) := by show _ = _; unfold Sp.bare1; rw [if_neg (by omega), if_neg (by omega), if_pos hk]
    rw [HR.out]
    obtain ⟨new, HNW⟩ : ∃ new, Hid (new = (if a.not then [91, 94] else [91]) ++ Sp.listed a.set ++ [93]) := ⟨_, (rfl : (if a.not then [91, 94] else [91]) ++ Sp.listed a.set ++ [93] = _)⟩
    rw [← HNW.out]
    have H8 : Hid (w.cell? ⟨p, 8, none⟩ = some (.bool a.not)) := c8
    clear f0 hk hnum c8
    go_enter Tryd.func16, Tryd.ntmps16
    go_wp2_with fail
    refine (prList_core b l p a.set a.not _ (by exact hh.out) (by omega) hp (by exact HS.out) (by exact H8.out)).mono ?_
    rw [← HNW.out]
    rintro e w1 ⟨rfl, hb1, hu1⟩
    go_wp2_with fail
    go_end0
    exact ⟨rfl, hb1, hu1⟩
  · obtain ⟨hone, htold⟩ := hnum hk
    obtain ⟨t, rfl⟩ : ∃ t, ks = [t] := by
      match ks, hone with
      | [t], _ => exact ⟨t, rfl⟩
    have hq1 : qs.length = 1 := HL.out
    obtain ⟨q, rfl⟩ : ∃ q, qs = [q] := by
      match qs, hq1 with
      | [q], _ => exact ⟨q, rfl⟩
    obtain ⟨g, cap, hlv, hgc⟩ : ∃ g cap, lv = .slice (some ⟨g, 0, none⟩) 1 cap ∧ w.cell? ⟨g, 0, none⟩ = some (.pointer (some ⟨q, 0, none⟩)) := by
      rcases own_cells HO.out with ⟨_, hqs⟩ | ⟨g, cap, hl', _, _, hcell⟩
      · cases hqs
      · exact ⟨g, cap, hl', hcell 0 q rfl⟩
    have hgb : g < b := HG.out g (by rw [hlv]; rfl)
    have c0 : w.cell? ⟨p, 0, none⟩ = some (.int .i64 3) := by simpa [tnOf, kindP, hk] using f0
    have c2 : w.cell? ⟨p, 2, none⟩ = some (.slice (some ⟨g, 0, none⟩) 1 cap) := by rw [← hlv]; exact HT.out.facts.c2
    have c9 : w.cell? ⟨p, 9, none⟩ = some (.int .i64 a.num) := by simpa [tnOf, hk] using HT.out.facts.c9
    have HR : Hid (Sp.bare1 a (Sp.texts (a.kind == 4) true [t]) = (if a.told then [40] else [40, 63, 58]) ++ Sp.text t ++ [41]) := by
      show _ = _; unfold Sp.bare1; rw [if_neg (by omega), if_neg (by omega), if_neg (by omega), if_pos hk, Sp.texts_cons]; simp [Sp.texts]
    rw [HR.out]
    obtain ⟨new, HNW⟩ : ∃ new, Hid (new = (if a.told then [40] else [40, 63, 58]) ++ Sp.text t ++ [41]) := ⟨_, (rfl : (if a.told then [40] else [40, 63, 58]) ++ Sp.text t ++ [41] = _)⟩
    rw [← HNW.out]
    have HC : Hid (w.cell? ⟨p, 9, none⟩ = some (.int .i64 a.num) ∧ w.cell? ⟨p, 2, none⟩ = some (.slice (some ⟨g, 0, none⟩) 1 cap) ∧ w.cell? ⟨g, 0, none⟩ = some (.pointer (some ⟨q, 0, none⟩)) ∧ a.told = decide ((a.num : Int) ≠ 0)) := ⟨c9, c2, hgc, by rw [htold]; simp⟩
    clear f0 hk hnum c9 c2 hgc htold hlv hone hq1
    go_enter Tryd.func16, Tryd.ntmps16
    go_wp2_with fail
    refine (prGroup_any b l p q g cap a.num a.told t _ (by exact hh.out) (by omega) (by exact HN.out) hp hgb (by exact HC.out.1) (by exact HC.out.2.1) (by exact HC.out.2.2.1) (HW.out 0 t rfl) HC.out.2.2.2).mono ?_
    rw [← HNW.out]
    rintro e w1 ⟨rfl, hb1, hu1⟩
    go_wp2_with fail
    go_end0
    exact ⟨rfl, hb1, hu1⟩
  · have c0 : w.cell? ⟨p, 0, none⟩ = some (.int .i64 6) := by simpa [tnOf, kindP, hk] using f0
    have c2 : w.cell? ⟨p, 2, none⟩ = some lv := HT.out.facts.c2
    have HR : Hid (Sp.bare1 a (Sp.texts (a.kind == 4) true ks) = Sp.texts true true ks) := by
      show _ = _; unfold Sp.bare1; rw [if_neg (by omega), if_neg (by omega), if_neg (by omega), if_neg (by omega), hk]; rfl
    rw [HR.out]
    clear f0 hk hnum
    go_enter Tryd.func16, Tryd.ntmps16
    go_wp2_with fail
    refine (prAll_any b l true lv qs ks _ (by exact hh.out) (by omega) (by exact HN.out) (by exact HO.out) HG.out HW.out (by have := HL.out; omega)).mono ?_
    rintro e w1 ⟨rfl, hb1, hu1⟩
    go_wp2_with fail
    go_end0
    exact ⟨rfl, hb1, hu1⟩
  · have c0 : w.cell? ⟨p, 0, none⟩ = some (.int .i64 5) := by simpa [tnOf, kindP, hk] using f0
    have c2 : w.cell? ⟨p, 2, none⟩ = some lv := HT.out.facts.c2
    have HR : Hid (Sp.bare1 a (Sp.texts (a.kind == 4) true ks) = Sp.texts false true ks) := by
      show _ = _; unfold Sp.bare1; rw [if_neg (by omega), if_neg (by omega), if_neg (by omega), if_neg (by omega), hk]; rfl
    rw [HR.out]
    clear f0 hk hnum
    go_enter Tryd.func16, Tryd.ntmps16
    go_wp2_with fail
    refine (prAll_any b l false lv qs ks _ (by exact hh.out) (by omega) (by exact HN.out) (by exact HO.out) HG.out HW.out (by have := HL.out; omega)).mono ?_
    rintro e w1 ⟨rfl, hb1, hu1⟩
    go_wp2_with fail
    go_end0
    exact ⟨rfl, hb1, hu1⟩
end Go.Proofs.YtcpfpnjkfahjcaaDoor
