import Derived.Test.YtcpfpnjkfahjcaaGreatH49
set_option linter.unusedSimpArgs false
set_option linter.unusedVariables false
namespace Go.Proofs.YtcpfpnjkfahjcaaGreat
open Go.RowKit

/-- Behind some rounds of looking. -/
structure StInv (w : World) (N gn : Nat) (vi : Value) (wr : World) : Prop where
  st : ∃ c : Nat, vi = .int .i64 c ∧ c + gn = N ∧ ∃ q, wr = w.drewN q
theorem Ent.cells {w : World} {v : Value} {z : Int} (h : Ent w v z) : ∃ a l c, v = .slice a l c ∧ l ≤ 9223372036854775807 ∧ ∀ j, j < l → ∃ g, a = some ⟨g, 0, none⟩ ∧ l ≤ c ∧ w.cell? ⟨g, j * 2, none⟩ = some (.int .i64 z) ∧ w.cell? ⟨g, j * 2 + 1, none⟩ = some (.int .i64 0) := by
  rcases h with ⟨c, q⟩ | ⟨g, l, cap, cur, q, h1, h2, h3⟩
  · exact ⟨none, 0, c, q, by omega, fun j hj => by omega⟩
  · refine ⟨some ⟨g, 0, none⟩, l, cap, q, by have := h1.2; unfold maxLen at this; omega, fun j hj => ⟨g, rfl, h1.1, ?_, ?_⟩⟩
    · rw [World.cell?, h2]
      show cur[j * 2]? = _
      have e : cur.toList[j * 2]? = (flat l (fun _ => (z, 0)))[j * 2]? := by rw [← h3, List.getElem?_take_of_lt (by omega)]
      rw [flat_get, if_pos (by omega), if_pos (by omega), Array.getElem?_toList] at e
      exact e
    · rw [World.cell?, h2]
      show cur[j * 2 + 1]? = _
      have e : cur.toList[j * 2 + 1]? = (flat l (fun _ => (z, 0)))[j * 2 + 1]? := by rw [← h3, List.getElem?_take_of_lt (by omega)]
      rw [flat_get, if_pos (by omega), if_neg (by omega), Array.getElem?_toList] at e
      exact e
set_option maxRecDepth 8000 in
set_option maxHeartbeats 1600000 in
theorem bStill_any (wc w : World) (b k : Nat) (n : Int) (vS vN vQ : Value) (es : List (Value × Int)) (B : BkAt wc w b k n vS vN (.slice none 0 0) vQ es) (hk : k ≤ 20000000) : Calls Tryz.prog 14 #[.pointer (some ⟨b, 0, none⟩)] w fun e w' => e = .returned (.bool true) ∧ Upd [] w w' := by
  have HB : Hid (BkAt wc w b k n vS vN (.slice none 0 0) vQ es) := B
  obtain ⟨sa, sc, hsv, hsc⟩ := row_form B.s
  obtain ⟨na, nc, hnv, hnc⟩ := row_form B.n
  subst hsv hnv
  have b1 : w.cell? ⟨b, 1, none⟩ = some (.slice sa k sc) := by rw [World.cell?, B.cell]; rfl
  have b2 : w.cell? ⟨b, 2, none⟩ = some (.slice na k nc) := by rw [World.cell?, B.cell]; rfl
  have b3 : w.cell? ⟨b, 3, none⟩ = some (.slice none 0 0) := by rw [World.cell?, B.cell]; rfl
  have hlen : es.length = k := by have := B.s.1; simpa using this
  have HLEN : Hid (es.length = k) := hlen
  clear B hlen
  go_enter Tryz.func14, Tryz.ntmps14
  go_wp2_with fail
  go_loopg [3] k (fun gn vi wr => StInv w k gn vi wr)
  case atStart => exact ⟨0, rfl, by omega, 0, by cases w; rfl⟩
  case round =>
    obtain ⟨c, hvi, hcg, q, hq⟩ := hrel.st
    subst hvi hq
    by_cases hlt : c < k
    · have hlt' : (c : Int) < k := by omega
      obtain ⟨gm, hgm⟩ : ∃ x, gk = x + 1 := ⟨gk - 1, by omega⟩
      have hx : es[c]? = some (es[c]'(by rw [HLEN.out]; exact hlt)) := List.getElem?_eq_getElem _
      generalize es[c]'(by rw [HLEN.out]; exact hlt) = x at hx
      obtain ⟨gs, hgs⟩ : ∃ g, sa = some ⟨g, 0, none⟩ := by
        rcases HB.out.s.2 with ⟨p, p'⟩ | ⟨g, cap, cur, p, _⟩
        · omega
        · injection p with p1; exact ⟨g, p1⟩
      obtain ⟨gn, hgn⟩ : ∃ g, na = some ⟨g, 0, none⟩ := by
        rcases HB.out.n.2 with ⟨p, p'⟩ | ⟨g, cap, cur, p, _⟩
        · omega
        · injection p with p1; exact ⟨g, p1⟩
      subst hgs hgn
      have e1 : w.cell? ⟨gs, c, none⟩ = some x.1 := by
        have := HB.out.s.cells (g := gs) rfl c x.1 (by rw [List.getElem?_map, hx]; rfl)
        have e0 : (⟨gs, 0, none⟩ : Addr).add c = ⟨gs, c, none⟩ := by simp [Addr.add]; omega
        rw [e0] at this; exact this
      have e2 : w.cell? ⟨gn, c, none⟩ = some (.int .i64 x.2) := by
        have := HB.out.n.cells (g := gn) rfl c (.int .i64 x.2) (by rw [List.getElem?_map, hx]; rfl)
        have e0 : (⟨gn, 0, none⟩ : Addr).add c = ⟨gn, c, none⟩ := by simp [Addr.add]; omega
        rw [e0] at this; exact this
      obtain ⟨va, vl, vc, hv, hvb, hcs⟩ := (HB.out.ent x (List.mem_of_getElem? hx)).cells
      rw [hv] at e1
      have HCS : Hid (∀ j, j < vl → ∃ g, va = some ⟨g, 0, none⟩ ∧ vl ≤ vc ∧ w.cell? ⟨g, j * 2, none⟩ = some (.int .i64 x.2) ∧ w.cell? ⟨g, j * 2 + 1, none⟩ = some (.int .i64 0)) := hcs
      generalize x.2 = z at *
      clear hx hv hcs hrel
      have hneq := fun a b c d w => neqSpan a b c d w
      go_wp2_with fail
      go_loopg [4] vl (fun gn vi wr => StInv w vl gn vi wr)
      case atStart => exact ⟨0, rfl, by omega, q, rfl⟩
      case round =>
        obtain ⟨j, hvj, hjg, q2, hq2⟩ := hrel.st
        subst hvj hq2
        clear hrel
        by_cases hjl : j < vl
        · have hjl' : (j : Int) < vl := by omega
          obtain ⟨gm2, hgm2⟩ : ∃ x, gk = x + 1 := ⟨gk - 1, by omega⟩
          obtain ⟨ge, hge, hle, d0, d1⟩ := HCS.out j hjl
          subst hge
          go_wp2_with fail
          go_quiet (fail)
          go_wp2_with fail
          go_roundg gm2
          case measure => omega
          case rel => exact ⟨j + 1, rfl, by omega, q2 + nq, rfl⟩
        · have hjl' : ¬ (j : Int) < vl := by omega
          go_wp2_with fail
          go_roundg gm
          case measure => omega
          case rel => exact ⟨c + 1, rfl, by omega, q2, rfl⟩
    · have hlt' : ¬ (c : Int) < k := by omega
      go_wp2_with fail
      refine wp_loop_rounds 1 ?_
      rw [rounds_succ]
      go_wp2_with fail
      go_ret
      exact ⟨rfl, drewN_upd _ _ _⟩
end Go.Proofs.YtcpfpnjkfahjcaaGreat

set_option linter.unusedSimpArgs false
set_option linter.unusedVariables false
namespace Go.Proofs.YtcpfpnjkfahjcaaGreat
open Go.RowKit

def dRow (l : List Tr) : Tr := ⟨{ Sp.blank with kind := 5 }, l⟩
def dCho (l : List Tr) : Tr := ⟨{ Sp.blank with kind := 4 }, l⟩
def docP : ByteArray := ⟨#[40, 97, 124, 97, 98, 41, 40, 99, 124, 98, 99, 100, 41, 40, 100, 42, 41]⟩
def docT : ByteArray := ⟨#[97, 98, 99, 100]⟩
def byL (b : Nat) : Lab := { Sp.blank with kind := 0, byte := b, set := fun c => c == b }
def grL (k : Nat) : Lab := { Sp.blank with kind := 3, told := true, num := k, min := -1, max := 0 }
def docTree : Tr := dCho [dRow [⟨grL 1, [dCho [dRow [⟨byL 97, []⟩], dRow [⟨byL 97, []⟩, ⟨byL 98, []⟩]]]⟩, ⟨grL 2, [dCho [dRow [⟨byL 99, []⟩], dRow [⟨byL 98, []⟩, ⟨byL 99, []⟩, ⟨byL 100, []⟩]]]⟩, ⟨grL 3, [dCho [dRow [⟨{ byL 100 with min := 0, max := -1 }, []⟩]]]⟩]]
theorem doc_choice : Sp.choice docP 9 ⟨0, 0⟩ = .ok (docTree, ⟨17, 3⟩) := by kernel_rfl
theorem doc_size : Sp.size docTree = 8 := by
  unfold docTree dCho dRow Sp.size
  simp only [Sp.sizes]
  kernel_rfl
theorem doc_read : Sp.read docP = .ok (docTree, 3) := by
  unfold Sp.read
  rw [if_neg (by decide), doc_choice]
  simp only
  rw [if_neg (by decide), doc_size, if_neg (by decide)]
theorem doc_yes : (Sp.sem docT docTree).m 0 4 = true ∧ (Sp.sem docT docTree).g 0 4 = [(1, 0, 2), (2, 2, 3), (3, 3, 4)] := by
  unfold docTree dCho dRow Sp.sem
  simp only [Sp.sems]
  exact ⟨by kernel_rfl, by kernel_rfl⟩
def docF : Nat → Int × Int := Sp.spansOf [(1, 0, 2), (2, 2, 3), (3, 3, 4)] 4
theorem doc_whole : wholeS docTree docT = some docF := by
  unfold wholeS
  have e : docT.size = 4 := rfl
  rw [e, doc_yes.1, doc_yes.2]; rfl
theorem lMatch_yes (p : Nat) (u : Tr) (n : Nat) (t : ByteArray) (w : World) (ht : t.size ≤ 100) (h : PatAt w p u n) {f : Nat → Int × Int} (hr : wholeS u t = some f) : Calls Tryz.prog 8 #[.pointer (some ⟨p, 0, none⟩), .string t] w fun e w' => ∃ g, w.heap.size ≤ g ∧ e = .returned (.tuple #[.slice (some ⟨g, 0, none⟩) (n + 1) (n + 1), .int .i64 0]) ∧ SpansAt w' g (n + 1) f ∧ Upd [] w w' := by
  refine (sMatch_any p u n t w ht h).mono ?_
  rintro e w' ⟨v, k⟩
  rw [hr] at k
  obtain ⟨g, h1, h2, h3⟩ := k
  exact ⟨g, h1, h2, h3, v⟩
set_option maxRecDepth 8000 in
set_option maxHeartbeats 1600000 in
theorem lmatches_any (w : World) : Calls Tryz.prog 5 #[] w fun e w' => e = .returned (.bool true) ∧ Upd [] w w' := by
  go_enter Tryz.func5, Tryz.ntmps5
  go_wp2_with fail
  refine (sComp_yes docP docTree 3 _ doc_read).mono ?_
  rintro e w1 ⟨p, rfl, hp, h1, u1⟩
  have U1 : Hid (Upd [] w w1) := u1
  have P1 : Hid (PatAt w1 p docTree 3) := h1
  clear u1 h1
  go_wp2_with fail
  refine (lMatch_yes p docTree 3 docT _ (by decide) P1.out doc_whole).mono ?_
  rintro e w2 ⟨g, hg, rfl, s2, u2⟩
  have U2 : Hid (Upd [] w w2) := U1.out.trans u2
  have S2 : Hid (SpansAt w2 g 4 docF) := s2
  clear u2 s2
  have LT : Hid (SpansAt (w2.alloc (.cells #[.int .i64 0, .int .i64 4, .int .i64 0, .int .i64 2, .int .i64 2, .int .i64 3, .int .i64 3, .int .i64 4] 66)) w2.heap.size 4 (fun k => [((0 : Int), (4 : Int)), (0, 2), (2, 3), (3, 4)].getD k (0, 0))) := by
    have e := spArr_list [(0, 4), (0, 2), (2, 3), (3, 4)]
    show _ = _
    rw [show spArr 4 (fun k => [((0 : Int), (4 : Int)), (0, 2), (2, 3), (3, 4)].getD k (0, 0)) = _ from e.symm]
    exact heap_new rfl
  have HS : Hid (sameB 4 docF 4 (fun k => [((0 : Int), (4 : Int)), (0, 2), (2, 3), (3, 4)].getD k (0, 0)) = true) := by
    show _ = _
    kernel_rfl
  go_wp2_with fail
  refine (same_any _ _ 4 4 docF _ _ (SpansAt.own (g := g) (n := 4) (by exact (Below.heap_alloc _ _ _ (lt_of_heap S2.out)).trans S2.out) (by omega)) (SpansAt.own LT.out (by omega)) (by omega) (by omega)).mono ?_
  rw [HS.out]
  rintro e w4 ⟨rfl, q, rfl⟩
  go_wp2_with fail
  go_ret
  exact ⟨rfl, U2.out.trans (by (repeat (first | exact Upd.refl _ _ | refine Upd.drewN ?_ | refine Upd.drew ?_ | refine Upd.setCell ?_ (by simp) _ | refine Upd.alloc ?_ _)))⟩
end Go.Proofs.YtcpfpnjkfahjcaaGreat

set_option linter.unusedSimpArgs false
set_option linter.unusedVariables false
namespace Go.Proofs.YtcpfpnjkfahjcaaGreat
open Go.RowKit

/-- What Match answers, of a pattern or of none. -/
def mRes (st : Option (Tr × Nat)) (S : ByteArray) : Nat × (Nat → Int × Int) × Int := match st with
  | none => (0, Sp.nowh, 1)
  | some (t, n) => if 100 < S.size then (0, Sp.nowh, 2) else match wholeS t S with
    | none => (0, Sp.nowh, 0)
    | some f => (n + 1, f, 0)
/-- What Longest answers. -/
def lRes (st : Option (Tr × Nat)) (S : ByteArray) : Int × Nat × (Nat → Int × Int) × Int := match st with
  | none => (0, 0, Sp.nowh, 1)
  | some (t, n) => if 100 < S.size then (0, 0, Sp.nowh, 2) else match longS t S with
    | none => (-1, 0, Sp.nowh, 0)
    | some k => ((k : Int), n + 1, Sp.spansOf ((Sp.sem S t).g 0 k) k, 0)
def PatSt (w : World) (v : Option Addr) : Option (Tr × Nat) → Prop
  | none => v = none
  | some (t, n) => ∃ p, v = some ⟨p, 0, none⟩ ∧ PatAt w p t n
def RefSt (w : World) (v : Option Addr) (s : ByteArray) : Option (Tr × Nat) → Prop
  | none => v = none
  | some (t, n) => ∃ p, v = some ⟨p, 0, none⟩ ∧ RfPat w p s t n
theorem PatSt.upd {w w' : World} {v : Option Addr} {st : Option (Tr × Nat)} (h : PatSt w v st) (u : Upd [] w w') : PatSt w' v st := by
  cases st with
  | none => exact h
  | some x => obtain ⟨t, n⟩ := x; obtain ⟨p, e, k⟩ := h; exact ⟨p, e, k.upd u⟩
theorem RefSt.upd {w w' : World} {v : Option Addr} {s : ByteArray} {st : Option (Tr × Nat)} (h : RefSt w v s st) (u : Upd [] w w') : RefSt w' v s st := by
  cases st with
  | none => exact h
  | some x => obtain ⟨t, n⟩ := x; obtain ⟨p, e, k⟩ := h; exact ⟨p, e, k.upd u⟩
theorem spo_nil (w : World) (b : Nat) : SpO w b (.slice none 0 0) 0 Sp.nowh := ⟨flat_length 0 _, Or.inl ⟨rfl, rfl⟩⟩
theorem spo_at {w : World} {g n b : Nat} {f : Nat → Int × Int} (h : SpansAt w g n f) (hb : b ≤ g) (hn : n ≤ 1000) : SpO w b (.slice (some ⟨g, 0, none⟩) n n) n f := by
  obtain ⟨h1, h2⟩ := SpansAt.own h hn
  refine ⟨h1, ?_⟩
  rcases h2 with ⟨q, _⟩ | ⟨g', cap, cur, q, _, e3⟩
  · cases q
  · unfold spansV at q
    injection q with q1 q2 q3
    injection q1 with q1
    injection q1 with q1 _ _
    subst q1
    subst q3
    exact Or.inr ⟨g, n, cur, rfl, hb, e3⟩
def MrOut (st : Option (Tr × Nat)) (S : ByteArray) (w : World) (e : Ending) (w' : World) : Prop := ∃ vl, e = .returned (.tuple #[vl, .int .i64 (mRes st S).2.2]) ∧ SpO w' w.heap.size vl (mRes st S).1 (mRes st S).2.1 ∧ Upd [] w w'
def LrOut (st : Option (Tr × Nat)) (S : ByteArray) (w : World) (e : Ending) (w' : World) : Prop := ∃ vl, e = .returned (.tuple #[.int .i64 (lRes st S).1, vl, .int .i64 (lRes st S).2.2.2]) ∧ SpO w' w.heap.size vl (lRes st S).2.1 (lRes st S).2.2.1 ∧ Upd [] w w'
theorem mRes_long {t : Tr} {n : Nat} {S : ByteArray} (h : 100 < S.size) : mRes (some (t, n)) S = (0, Sp.nowh, 2) := by unfold mRes; simp only; rw [if_pos h]
theorem mRes_no {t : Tr} {n : Nat} {S : ByteArray} (h : ¬ 100 < S.size) (hr : wholeS t S = none) : mRes (some (t, n)) S = (0, Sp.nowh, 0) := by unfold mRes; simp only; rw [if_neg h, hr]
theorem mRes_yes {t : Tr} {n : Nat} {S : ByteArray} {f : Nat → Int × Int} (h : ¬ 100 < S.size) (hr : wholeS t S = some f) : mRes (some (t, n)) S = (n + 1, f, 0) := by unfold mRes; simp only; rw [if_neg h, hr]
theorem lRes_long {t : Tr} {n : Nat} {S : ByteArray} (h : 100 < S.size) : lRes (some (t, n)) S = (0, 0, Sp.nowh, 2) := by unfold lRes; simp only; rw [if_pos h]
theorem lRes_no {t : Tr} {n : Nat} {S : ByteArray} (h : ¬ 100 < S.size) (hr : longS t S = none) : lRes (some (t, n)) S = (-1, 0, Sp.nowh, 0) := by unfold lRes; simp only; rw [if_neg h, hr]
theorem lRes_yes {t : Tr} {n k : Nat} {S : ByteArray} (h : ¬ 100 < S.size) (hr : longS t S = some k) : lRes (some (t, n)) S = ((k : Int), n + 1, Sp.spansOf ((Sp.sem S t).g 0 k) k, 0) := by unfold lRes; simp only; rw [if_neg h, hr]
theorem mo_out {t : Tr} {n : Nat} {S : ByteArray} {w w' : World} {e : Ending} (h : ¬ 100 < S.size) (hn : n ≤ 9) (k : MatchOut (n + 1) (wholeS t S) w e w') : MrOut (some (t, n)) S w e w' := by
  obtain ⟨u, k⟩ := k
  cases hr : wholeS t S with
  | none => rw [hr] at k; unfold MrOut; rw [mRes_no h hr]; exact ⟨_, k, spo_nil _ _, u⟩
  | some f => rw [hr] at k; obtain ⟨g, h1, h2, h3⟩ := k; unfold MrOut; rw [mRes_yes h hr]; exact ⟨_, h2, spo_at h3 h1 (by omega), u⟩
theorem lo_out {t : Tr} {n : Nat} {S : ByteArray} {w w' : World} {e : Ending} (h : ¬ 100 < S.size) (hn : n ≤ 9) (k : SLongOut (n + 1) t S (longS t S) w e w') : LrOut (some (t, n)) S w e w' := by
  obtain ⟨u, k⟩ := k
  cases hr : longS t S with
  | none => rw [hr] at k; unfold LrOut; rw [lRes_no h hr]; exact ⟨_, k, spo_nil _ _, u⟩
  | some j => rw [hr] at k; obtain ⟨g, h1, h2, h3⟩ := k; unfold LrOut; rw [lRes_yes h hr]; exact ⟨_, h2, spo_at h3 h1 (by omega), u⟩
theorem sMatch_res (v : Option Addr) (st : Option (Tr × Nat)) (S : ByteArray) (w : World) (h : PatSt w v st) : Calls Tryz.prog 8 #[.pointer v, .string S] w (MrOut st S w) := by
  cases st with
  | none =>
    have hv : v = none := h
    subst hv
    refine (sMatch_not none S w (Or.inr rfl)).mono ?_
    rintro e w' ⟨rfl, u⟩
    exact ⟨_, rfl, spo_nil _ _, u⟩
  | some x =>
    obtain ⟨t, n⟩ := x
    obtain ⟨p, rfl, hp⟩ := h
    by_cases hS : 100 < S.size
    · refine (sMatch_not _ S w (Or.inl ⟨p, rfl, hS⟩)).mono ?_
      rintro e w' ⟨rfl, u⟩
      unfold MrOut; rw [mRes_long hS]
      exact ⟨_, rfl, spo_nil _ _, u⟩
    · exact (sMatch_any p t n S w (by omega) hp).mono fun e w' k => mo_out hS hp.1 k
theorem sLongest_res (v : Option Addr) (st : Option (Tr × Nat)) (S : ByteArray) (w : World) (h : PatSt w v st) : Calls Tryz.prog 12 #[.pointer v, .string S] w (LrOut st S w) := by
  cases st with
  | none =>
    have hv : v = none := h
    subst hv
    refine (sLongest_not none S w (Or.inr rfl)).mono ?_
    rintro e w' ⟨rfl, u⟩
    exact ⟨_, rfl, spo_nil _ _, u⟩
  | some x =>
    obtain ⟨t, n⟩ := x
    obtain ⟨p, rfl, hp⟩ := h
    by_cases hS : 100 < S.size
    · refine (sLongest_not _ S w (Or.inl ⟨p, rfl, hS⟩)).mono ?_
      rintro e w' ⟨rfl, u⟩
      unfold LrOut; rw [lRes_long hS]
      exact ⟨_, rfl, spo_nil _ _, u⟩
    · exact (sLongest_any p t n S w (by omega) hp).mono fun e w' k => lo_out hS hp.1 k
theorem rMatch_res (v : Option Addr) (s : ByteArray) (st : Option (Tr × Nat)) (S : ByteArray) (w : World) (h : RefSt w v s st) : Calls Tryz.prog 9 #[.pointer v, .string S] w (MrOut st S w) := by
  cases st with
  | none =>
    have hv : v = none := h
    subst hv
    refine (rMatch_nil S w).mono ?_
    rintro e w' ⟨rfl, u⟩
    exact ⟨_, rfl, spo_nil _ _, u⟩
  | some x =>
    obtain ⟨t, n⟩ := x
    obtain ⟨p, rfl, hp⟩ := h
    by_cases hS : 100 < S.size
    · refine (rMatch_long p S w hS).mono ?_
      rintro e w' ⟨rfl, u⟩
      unfold MrOut; rw [mRes_long hS]
      exact ⟨_, rfl, spo_nil _ _, u⟩
    · exact (rMatch_any p n s t S w (by omega) hp).mono fun e w' k => mo_out hS hp.nine k
theorem rLongest_res (v : Option Addr) (s : ByteArray) (st : Option (Tr × Nat)) (S : ByteArray) (w : World) (h : RefSt w v s st) : Calls Tryz.prog 13 #[.pointer v, .string S] w (LrOut st S w) := by
  cases st with
  | none =>
    have hv : v = none := h
    subst hv
    refine (rLongest_nil S w).mono ?_
    rintro e w' ⟨rfl, u⟩
    exact ⟨_, rfl, spo_nil _ _, u⟩
  | some x =>
    obtain ⟨t, n⟩ := x
    obtain ⟨p, rfl, hp⟩ := h
    by_cases hS : 100 < S.size
    · refine (rLongest_long p S w hS).mono ?_
      rintro e w' ⟨rfl, u⟩
      unfold LrOut; rw [lRes_long hS]
      exact ⟨_, rfl, spo_nil _ _, u⟩
    · exact (rLongest_any p n s t S w (by omega) hp).mono fun e w' k => lo_out hS hp.nine k
theorem mRes_le (st : Option (Tr × Nat)) (S : ByteArray) (h : ∀ t n, st = some (t, n) → n ≤ 9) : (mRes st S).1 ≤ 20 := by
  cases st with
  | none => exact Nat.zero_le _
  | some x =>
    obtain ⟨t, n⟩ := x
    have := h t n rfl
    unfold mRes; simp only
    split
    · exact Nat.zero_le _
    · split
      · exact Nat.zero_le _
      · show n + 1 ≤ 20; omega
theorem lRes_le (st : Option (Tr × Nat)) (S : ByteArray) (h : ∀ t n, st = some (t, n) → n ≤ 9) : (lRes st S).2.1 ≤ 20 := by
  cases st with
  | none => exact Nat.zero_le _
  | some x =>
    obtain ⟨t, n⟩ := x
    have := h t n rfl
    unfold lRes; simp only
    split
    · exact Nat.zero_le _
    · split
      · exact Nat.zero_le _
      · show n + 1 ≤ 20; omega
end Go.Proofs.YtcpfpnjkfahjcaaGreat
