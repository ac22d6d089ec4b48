import Derived.Test.YtadmlifmcdnhnaaDoorH16
import Derived.Test.YtadmlifmcdnhnaaDoorH15
set_option linter.unusedSimpArgs false
set_option linter.unusedVariables false
namespace Go.Proofs.YtadmlifmcdnhnaaDoor
open Go.RowKit

def cntMN (m n : Int) : List UInt8 := Sp.cnt { Sp.blank with min := m, max := n }
theorem cnt_is (a : Lab) : Sp.cnt a = cntMN a.min a.max := rfl
theorem itoa_v (m : Int) (h0 : 0 ≤ m) (h1 : m ≤ 20) (w : World) :
    Calls Tryd.prog 59 #[.int .i64 m] w fun e w' => e = .returned (.string (str (Sp.digs m))) ∧ w' = w := by
  obtain ⟨k, rfl⟩ := Int.eq_ofNat_of_zero_le h0
  rw [← dec_is (by omega : k < 100)]
  exact itoa_any k (by omega) w

set_option maxHeartbeats 800000 in
theorem prBounds_any (b : Nat) (l : List UInt8) (m n : Int) (w : World) (h : BdAt w b l) (hl : l.length ≤ 8000000) (m0 : 0 ≤ m) (m1 : m ≤ 20) (n0 : -1 ≤ n) (n1 : n ≤ 20) :
    Calls Tryd.prog 47 #[.pointer (some ⟨b, 0, none⟩), .int .i64 m, .int .i64 n] w (PrOut b l ([123] ++ Sp.digs m ++ (if n = m then [125] else if n < 0 then [44, 125] else [44] ++ Sp.digs n ++ [125])) w) := by
  have hh : Hid (BdAt w b l) := h
  clear h
  have hs1 := Sp.digs_le m
  have hs2 := Sp.digs_le n
  by_cases e1 : n = m
  · subst e1
    rw [if_pos rfl]
    go_enter Tryd.func47, Tryd.ntmps47
    go_wp2_with fail
    refine (wb_any b l 123 _ (by exact hh.out) (by omega)).mono ?_
    rintro e w1 ⟨rfl, hb1, hu1⟩
    have HB1 : Hid (BdAt w1 b (l ++ [123])) := hb1
    have HU1 : Hid (Below b w w1) := hu1
    clear hb1 hu1
    go_wp2_with fail
    refine (itoa_v n m0 m1 _).mono ?_
    rintro e w2 ⟨rfl, hw2⟩
    rw [hw2]
    clear hw2 w2
    go_wp2_with fail
    refine (ws_any b (l ++ [123]) _ _ (by exact HB1.out) (by simp; omega) (by show (Sp.digs n).toArray.size ≤ _; simp; omega)).mono ?_
    rintro e w3 ⟨rfl, hb3, hu3⟩
    have HB3 : Hid (BdAt w3 b (l ++ [123] ++ Sp.digs n)) := by show BdAt _ _ _; simpa [str] using hb3
    have HU3 : Hid (Below b w w3) := HU1.out.trans hu3
    clear hb3 hu3
    go_wp2_with fail
    refine (wb_any b (l ++ [123] ++ Sp.digs n) 125 _ (by exact HB3.out) (by simp; omega)).mono ?_
    rintro e w4 ⟨rfl, hb4, hu4⟩
    go_wp2_with fail
    go_end0
    exact ⟨rfl, by simpa using hb4, HU3.out.trans hu4⟩
  · have hne : (n != m) = true := by simpa using e1
    rw [if_neg e1]
    by_cases e2 : n < 0
    · rw [if_pos e2]
      have e2' : n = -1 := by omega
      subst e2'
      go_enter Tryd.func47, Tryd.ntmps47
      go_wp2_with fail
      refine (wb_any b l 123 _ (by exact hh.out) (by omega)).mono ?_
      rintro e w1 ⟨rfl, hb1, hu1⟩
      have HB1 : Hid (BdAt w1 b (l ++ [123])) := hb1
      have HU1 : Hid (Below b w w1) := hu1
      clear hb1 hu1
      go_wp2_with fail
      refine (itoa_v m m0 m1 _).mono ?_
      rintro e w2 ⟨rfl, hw2⟩
      rw [hw2]
      clear hw2 w2
      go_wp2_with fail
      refine (ws_any b (l ++ [123]) _ _ (by exact HB1.out) (by simp; omega) (by show (Sp.digs m).toArray.size ≤ _; simp; omega)).mono ?_
      rintro e w3 ⟨rfl, hb3, hu3⟩
      have HB3 : Hid (BdAt w3 b (l ++ [123] ++ Sp.digs m)) := by show BdAt _ _ _; simpa [str] using hb3
      have HU3 : Hid (Below b w w3) := HU1.out.trans hu3
      clear hb3 hu3
      go_wp2_with fail
      refine (wb_any b (l ++ [123] ++ Sp.digs m) 44 _ (by exact HB3.out) (by simp; omega)).mono ?_
      rintro e w4 ⟨rfl, hb4, hu4⟩
      have HB4 : Hid (BdAt w4 b (l ++ [123] ++ Sp.digs m ++ [44])) := hb4
      have HU4 : Hid (Below b w w4) := HU3.out.trans hu4
      clear hb4 hu4
      go_wp2_with fail
      refine (wb_any b (l ++ [123] ++ Sp.digs m ++ [44]) 125 _ (by exact HB4.out) (by simp; omega)).mono ?_
      rintro e w5 ⟨rfl, hb5, hu5⟩
      go_wp2_with fail
      go_end0
      exact ⟨rfl, by simpa using hb5, HU4.out.trans hu5⟩
    · rw [if_neg e2]
      have hne2 : (n != -1) = true := by simp; omega
      go_enter Tryd.func47, Tryd.ntmps47
      go_wp2_with fail
      refine (wb_any b l 123 _ (by exact hh.out) (by omega)).mono ?_
      rintro e w1 ⟨rfl, hb1, hu1⟩
      have HB1 : Hid (BdAt w1 b (l ++ [123])) := hb1
      have HU1 : Hid (Below b w w1) := hu1
      clear hb1 hu1
      go_wp2_with fail
      refine (itoa_v m m0 m1 _).mono ?_
      rintro e w2 ⟨rfl, hw2⟩
      rw [hw2]
      clear hw2 w2
      go_wp2_with fail
      refine (ws_any b (l ++ [123]) _ _ (by exact HB1.out) (by simp; omega) (by show (Sp.digs m).toArray.size ≤ _; simp; omega)).mono ?_
      rintro e w3 ⟨rfl, hb3, hu3⟩
      have HB3 : Hid (BdAt w3 b (l ++ [123] ++ Sp.digs m)) := by show BdAt _ _ _; simpa [str] using hb3
      have HU3 : Hid (Below b w w3) := HU1.out.trans hu3
      clear hb3 hu3
      go_wp2_with fail
      refine (wb_any b (l ++ [123] ++ Sp.digs m) 44 _ (by exact HB3.out) (by simp; omega)).mono ?_
      rintro e w4 ⟨rfl, hb4, hu4⟩
      have HB4 : Hid (BdAt w4 b (l ++ [123] ++ Sp.digs m ++ [44])) := hb4
      have HU4 : Hid (Below b w w4) := HU3.out.trans hu4
      clear hb4 hu4
      go_wp2_with fail
      refine (itoa_v n (by omega) n1 _).mono ?_
      rintro e w2 ⟨rfl, hw2⟩
      rw [hw2]
      clear hw2 w2
      go_wp2_with fail
      refine (ws_any b (l ++ [123] ++ Sp.digs m ++ [44]) _ _ (by exact HB4.out) (by simp; omega) (by show (Sp.digs n).toArray.size ≤ _; simp; omega)).mono ?_
      rintro e w5 ⟨rfl, hb5, hu5⟩
      have HB5 : Hid (BdAt w5 b (l ++ [123] ++ Sp.digs m ++ [44] ++ Sp.digs n)) := by show BdAt _ _ _; simpa [str] using hb5
      have HU5 : Hid (Below b w w5) := HU4.out.trans hu5
      clear hb5 hu5
      go_wp2_with fail
      refine (wb_any b (l ++ [123] ++ Sp.digs m ++ [44] ++ Sp.digs n) 125 _ (by exact HB5.out) (by simp; omega)).mono ?_
      rintro e w6 ⟨rfl, hb6, hu6⟩
      go_wp2_with fail
      go_end0
      exact ⟨rfl, by simpa using hb6, HU5.out.trans hu6⟩

theorem cnt_1 : cntMN 0 (-1) = [42] := rfl
theorem cnt_2 : cntMN 1 (-1) = [43] := rfl
theorem cnt_3 : cntMN 0 1 = [63] := rfl
theorem cnt_4 {m n : Int} (m0 : 0 ≤ m) (h1 : ¬ (m = 0 ∧ n < 0)) (h2 : ¬ (m = 1 ∧ n < 0)) (h3 : ¬ (m = 0 ∧ n = 1)) : cntMN m n = [123] ++ Sp.digs m ++ (if n = m then [125] else if n < 0 then [44, 125] else [44] ++ Sp.digs n ++ [125]) := by
  unfold cntMN Sp.cnt
  simp only
  rw [if_neg (by omega), if_neg h1, if_neg h2, if_neg h3]
  by_cases e1 : n = m
  · subst e1; rw [if_neg (by omega), if_pos rfl, if_pos rfl]
  · rw [if_neg e1]
    by_cases e2 : n < 0
    · rw [if_pos e2, if_pos e2]
    · rw [if_neg e2, if_neg e2, if_neg (fun e => e1 e.symm)]; simp

set_option maxHeartbeats 800000 in
theorem prCount_any (b : Nat) (l : List UInt8) (m n : Int) (w : World) (h : BdAt w b l) (hl : l.length ≤ 8000000) (m0 : 0 ≤ m) (m1 : m ≤ 20) (n0 : -1 ≤ n) (n1 : n ≤ 20) :
    Calls Tryd.prog 32 #[.pointer (some ⟨b, 0, none⟩), .int .i64 m, .int .i64 n] w (PrOut b l (cntMN m n) w) := by
  have hh : Hid (BdAt w b l) := h
  clear h
  by_cases e1 : m = 0 ∧ n < 0
  · obtain ⟨rfl, e⟩ := e1
    have e2 : n = -1 := by omega
    subst e2
    rw [cnt_1]
    go_enter Tryd.func32, Tryd.ntmps32
    go_wp2_with fail
    refine (wb_any b l 42 _ (by exact hh.out) (by omega)).mono ?_
    rintro e w1 ⟨rfl, hb1, hu1⟩
    go_wp2_with fail
    go_end0
    exact ⟨rfl, hb1, hu1⟩
  by_cases e2 : m = 1 ∧ n < 0
  · obtain ⟨rfl, e⟩ := e2
    have e2 : n = -1 := by omega
    subst e2
    rw [cnt_2]
    go_enter Tryd.func32, Tryd.ntmps32
    go_wp2_with fail
    refine (wb_any b l 43 _ (by exact hh.out) (by omega)).mono ?_
    rintro e w1 ⟨rfl, hb1, hu1⟩
    go_wp2_with fail
    go_end0
    exact ⟨rfl, hb1, hu1⟩
  by_cases e3 : m = 0 ∧ n = 1
  · obtain ⟨rfl, rfl⟩ := e3
    rw [cnt_3]
    go_enter Tryd.func32, Tryd.ntmps32
    go_wp2_with fail
    refine (wb_any b l 63 _ (by exact hh.out) (by omega)).mono ?_
    rintro e w1 ⟨rfl, hb1, hu1⟩
    go_wp2_with fail
    go_end0
    exact ⟨rfl, hb1, hu1⟩
  rw [cnt_4 m0 e1 e2 e3]
  obtain ⟨new, HN⟩ : ∃ new, Hid (new = [123] ++ Sp.digs m ++ (if n = m then [125] else if n < 0 then [44, 125] else [44] ++ Sp.digs n ++ [125])) := ⟨_, (rfl : [123] ++ Sp.digs m ++ (if n = m then [125] else if n < 0 then [44, 125] else [44] ++ Sp.digs n ++ [125]) = _)⟩
  rw [← HN.out]
  have HE : Hid (¬ (m = 0 ∧ n < 0) ∧ ¬ (m = 1 ∧ n < 0) ∧ ¬ (m = 0 ∧ n = 1)) := ⟨e1, e2, e3⟩
  clear e1 e2 e3
  go_enter Tryd.func32, Tryd.ntmps32
  go_wp2_with fail
  · exfalso; have q1 := ‹m = 0›; have q2 := ‹(n == -1) = true›; have := HE.out; rw [beq_iff_eq] at q2; omega
  · exfalso; have q1 := ‹m = 0›; have q2 := ‹(n == 1) = true›; have := HE.out; rw [beq_iff_eq] at q2; omega
  · have q0 := ‹m = 0›
    subst q0
    refine (prBounds_any b l 0 n _ (by exact hh.out) hl (by omega) (by omega) n0 n1).mono ?_
    rw [← HN.out]
    rintro e w1 ⟨rfl, hb1, hu1⟩
    go_wp2_with fail
    go_end0
    exact ⟨rfl, hb1, hu1⟩
  · exfalso; have q1 := ‹m = 1›; have q2 := ‹(n == -1) = true›; have := HE.out; rw [beq_iff_eq] at q2; omega
  · have q1 := ‹m = 1›
    subst q1
    refine (prBounds_any b l 1 n _ (by exact hh.out) hl (by omega) (by omega) n0 n1).mono ?_
    rw [← HN.out]
    rintro e w1 ⟨rfl, hb1, hu1⟩
    go_wp2_with fail
    go_end0
    exact ⟨rfl, hb1, hu1⟩
  · refine (prBounds_any b l m n _ (by exact hh.out) hl (by omega) (by omega) n0 n1).mono ?_
    rw [← HN.out]
    rintro e w1 ⟨rfl, hb1, hu1⟩
    go_wp2_with fail
    go_end0
    exact ⟨rfl, hb1, hu1⟩
end Go.Proofs.YtadmlifmcdnhnaaDoor

set_option linter.unusedSimpArgs false
set_option linter.unusedVariables false
namespace Go.Proofs.YtadmlifmcdnhnaaDoor
open Go.RowKit

theorem NodesAt.below {w w' : World} {b : Nat} {ps : List Nat} {ts : List Tr} (h : NodesAt w (fun k => k < b) ps ts) (hb : Below b w w') : NodesAt w' (fun k => k < b) ps ts :=
  NodesAt.same ps ts h (fun k hk _ => hb.block k hk)

/-- Writing a tree. -/
def WriteC (t : Tr) : Prop := ∀ (p b : Nat) (l : List UInt8) (w : World), BdAt w b l → l.length + 2321 * Sp.nodes [t] ≤ 7000000 → NodesAt w (fun k => k < b) [p] [t] →
  Calls Tryd.prog 16 #[.pointer (some ⟨b, 0, none⟩), .pointer (some ⟨p, 0, none⟩)] w (PrOut b l (Sp.text t) w)

def between (bar : Bool) : ByteArray := if bar then ⟨#[124]⟩ else ⟨#[]⟩
theorem between_list (bar : Bool) : (between bar).data.toList = if bar then [124] else [] := by cases bar <;> rfl

structure PAllInv (b : Nat) (l : List UInt8) (bar : Bool) (qs : List Nat) (ks : List Tr) (w : World) (gn : Nat) (v : Value) (wr : World) : Prop where
  st : ∃ k : Nat, v = .int .i64 k ∧ k + gn = qs.length ∧ BdAt wr b (l ++ Sp.texts bar true (ks.take k)) ∧ Below b w wr

theorem pnodes_take (ks : List Tr) (k : Nat) : Sp.nodes (ks.take k) ≤ Sp.nodes ks := by
  have h := Sp.nodes_append (ks.take k) (ks.drop k)
  rw [List.take_append_drop] at h; omega
theorem pnodes_get {ks : List Tr} {k : Nat} {t : Tr} (h : ks[k]? = some t) : Sp.nodes (ks.take k) + Sp.nodes [t] ≤ Sp.nodes ks := by
  have h1 := pnodes_take ks (k + 1)
  rw [take_get h, Sp.nodes_append] at h1; exact h1

set_option maxHeartbeats 2000000 in
theorem prAll_some (b : Nat) (l : List UInt8) (bar : Bool) (g cap : Nat) (qs : List Nat) (ks : List Tr) (w : World) (h : BdAt w b l) (hl : l.length + 2321 * Sp.nodes ks ≤ 7000000) (hn : NodesAt w (fun k => k < b) qs ks) (hg : g < b) (hcell : ∀ k q, qs[k]? = some q → w.cell? ⟨g, k, none⟩ = some (ptr q)) (hw : ∀ (k : Nat) t, ks[k]? = some t → WriteC t) (hql : qs.length ≤ 1000) :
    Calls Tryd.prog 33 #[.pointer (some ⟨b, 0, none⟩), .string (between bar), .slice (some ⟨g, 0, none⟩) qs.length cap] w (PrOut b l (Sp.texts bar true ks) w) := by
  have hh : Hid (BdAt w b l) := h
  have HN : Hid (NodesAt w (fun k => k < b) qs ks) := hn
  have HL : Hid (qs.length = ks.length) := NodesAt.length _ _ hn
  have HC : Hid (∀ k q, qs[k]? = some q → w.cell? ⟨g, k, none⟩ = some (ptr q)) := hcell
  have HW : Hid (∀ (k : Nat) t, ks[k]? = some t → WriteC t) := hw
  obtain ⟨bs, HBS⟩ : ∃ bs, Hid (bs = between bar) := ⟨between bar, (rfl : between bar = _)⟩
  rw [← HBS.out]
  clear h hn hcell hw
  go_enter Tryd.func33, Tryd.ntmps33
  go_wp2_with fail
  go_loopg [10] qs.length (fun gn v wr => PAllInv b l bar qs ks w gn v wr)
  case atStart => exact ⟨0, rfl, by omega, by simpa [Sp.texts] using hh.out, Below.refl _ _⟩
  case round =>
    obtain ⟨k, rfl, hgn, hb, hu⟩ := hrel.st
    clear hh hrel
    have HB : Hid (BdAt wr b (l ++ Sp.texts bar true (ks.take k))) := hb
    have HU : Hid (Below b w wr) := hu
    have htl := Sp.texts_le bar (ks.take k) true
    by_cases hlt : k < qs.length
    · obtain ⟨q, hq⟩ : ∃ q, qs[k]? = some q := ⟨_, List.getElem?_eq_getElem hlt⟩
      obtain ⟨t, ht⟩ : ∃ t, ks[k]? = some t := ⟨_, List.getElem?_eq_getElem (by have := HL.out; omega)⟩
      have hc : wr.cell? ⟨g, k, none⟩ = some (.pointer (some ⟨q, 0, none⟩)) := (cell_same (hu.block g hg) k).trans (HC.out k q hq)
      have HT : Hid (NodesAt wr (fun k => k < b) [q] [t]) := (NodesAt.get _ _ HN.out k q t hq ht).below hu
      have HWt : Hid (WriteC t) := HW.out k t ht
      have hng := pnodes_get ht
      have HX : Hid (Sp.texts bar true (ks.take (k + 1)) = Sp.texts bar true (ks.take k) ++ ((if bar && !(ks.take k).isEmpty then [124] else []) ++ Sp.text t)) := by
        show _ = _; rw [take_get ht, Sp.texts_snoc]; simp
      obtain ⟨fuel, rfl⟩ : ∃ n, gk = n + 1 := ⟨gk - 1, by omega⟩
      clear hb hu ht hq
      by_cases hk0 : k = 0
      · subst hk0
        have HX' : Hid (Sp.texts bar true (ks.take (0 + 1)) = Sp.text t) := by show _ = _; rw [HX.out]; simp [Sp.texts]
        have HB' : Hid (BdAt wr b l) := by show BdAt _ _ _; simpa [Sp.texts] using HB.out
        go_wp2_with fail
        refine (HWt.out q b l _ (by exact HB'.out) (by omega) (by exact HT.out)).mono ?_
        rintro e w3 ⟨rfl, hb3, hu3⟩
        have HB3 : Hid (BdAt w3 b (l ++ Sp.texts bar true (ks.take (0 + 1)))) := by rw [HX'.out]; exact hb3
        have HU3 : Hid (Below b w w3) := HU.out.trans hu3
        clear hb3 hu3
        go_wp2_with fail
        go_roundg fuel
        case measure => omega
        case rel => exact ⟨0 + 1, int_eq (by omega), by omega, HB3.out, HU3.out⟩
      · have hk0' : (0 : Int) < k := by omega
        have HX' : Hid (Sp.texts bar true (ks.take (k + 1)) = Sp.texts bar true (ks.take k) ++ ((between bar).data.toList ++ Sp.text t)) := by
          show _ = _; rw [HX.out, between_list]
          have : (ks.take k).isEmpty = false := by
            have := HL.out
            cases hks : ks.take k with
            | nil => have h2 : (ks.take k).length = 0 := by rw [hks]; rfl
                     rw [List.length_take] at h2; omega
            | cons a r => rfl
          rw [this]; cases bar <;> rfl
        have hf1 : 1 ≤ Sp.nodes (ks.take k) := by
          have := Sp.length_le_nodes (ks.take k); have h3 := HL.out; rw [List.length_take] at this; omega
        have hbl : (between bar).data.toList.length ≤ 1 := by rw [between_list]; cases bar <;> simp
        have hbz : (between bar).size ≤ 1 := hbl
        go_wp2_with fail
        refine (ws_any b (l ++ Sp.texts bar true (ks.take k)) bs _ (by exact HB.out) (by simp; omega) (by rw [HBS.out]; omega)).mono ?_
        rintro e w2 ⟨rfl, hb2, hu2⟩
        have HB2 : Hid (BdAt w2 b (l ++ Sp.texts bar true (ks.take k) ++ (between bar).data.toList)) := by rw [← HBS.out]; exact hb2
        have HU2 : Hid (Below b w w2) := HU.out.trans hu2
        have HT2 : Hid (NodesAt w2 (fun k => k < b) [q] [t]) := HT.out.below hu2
        clear hb2 hu2
        go_wp2_with fail
        have hnt : 1 ≤ Sp.nodes [t] := by rw [Sp.nodes_cons]; omega
        refine (HWt.out q b (l ++ Sp.texts bar true (ks.take k) ++ (between bar).data.toList) _ (by exact HB2.out) ?_ (by exact HT2.out)).mono ?_
        · simp only [List.length_append]; omega
        rintro e w3 ⟨rfl, hb3, hu3⟩
        have HB3 : Hid (BdAt w3 b (l ++ Sp.texts bar true (ks.take (k + 1)))) := by show BdAt _ _ _; rw [HX'.out]; simpa using hb3
        have HU3 : Hid (Below b w w3) := HU2.out.trans hu3
        clear hb3 hu3
        go_wp2_with fail
        go_roundg fuel
        case measure => omega
        case rel => exact ⟨k + 1, int_eq (by omega), by omega, HB3.out, HU3.out⟩
    · have HK : Hid (ks.take k = ks) := by show _ = _; have := HL.out; exact List.take_of_length_le (by omega)
      clear hb hu
      go_wp2_with fail
      go_end0
      exact ⟨rfl, by rw [← HK.out]; exact HB.out, HU.out⟩
end Go.Proofs.YtadmlifmcdnhnaaDoor
