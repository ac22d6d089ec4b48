import Derived.Test.YtcpfpnjkfahjcaaDoorH33
set_option linter.unusedSimpArgs false
set_option linter.unusedVariables false
namespace Go.Proofs.YtcpfpnjkfahjcaaDoor
open Go.RowKit

theorem texts_take {ks : List Tr} {k : Nat} {t : Tr} (bar : Bool) (h : ks[k]? = some t) : Sp.texts bar true (ks.take (k + 1)) = Sp.texts bar true (ks.take k) ++ ((if bar && decide (0 < k) then [124] else []) ++ Sp.text t) := by
  have hk : k < ks.length := by
    rcases Nat.lt_or_ge k ks.length with q | q
    · exact q
    · rw [List.getElem?_eq_none q] at h; cases h
  rw [List.take_add_one, h]
  show Sp.texts bar true (ks.take k ++ [t]) = _
  rw [Sp.texts_snoc]
  congr 2
  by_cases q : k = 0
  · subst q; simp
  · have : (List.take k ks).isEmpty = false := by
      cases hq : List.take k ks with
      | nil =>
        have h2 : (List.take k ks).length = 0 := by rw [hq]; rfl
        rw [List.length_take] at h2; omega
      | cons _ _ => rfl
    simp [this, Nat.pos_of_ne_zero q]
theorem nodes_mem : ∀ (l : List Tr) (t : Tr), t ∈ l → 1 + Sp.nodes t.kids ≤ Sp.nodes l
  | [], t, h => by simp at h
  | u :: r, t, h => by
    rw [Sp.nodes_cons]
    rcases List.mem_cons.1 h with rfl | h
    · omega
    · have := nodes_mem r t h; omega
theorem nodes_take (l : List Tr) (k : Nat) : Sp.nodes (l.take k) ≤ Sp.nodes l := by
  have := Sp.nodes_append (l.take k) (l.drop k)
  rw [List.take_append_drop] at this; omega
theorem text_le (t : Tr) : (Sp.text t).length ≤ 2320 * (1 + Sp.nodes t.kids) := by
  have h := Sp.texts_le false [t] true
  rw [Sp.texts_cons, Sp.nodes_cons] at h
  simp [Sp.texts, Sp.nodes] at h
  omega
theorem bareT_le (t : Tr) : (Sp.bareT t).length ≤ 2320 * (1 + Sp.nodes t.kids) := by
  have := text_le t; unfold Sp.text at this; simp at this; omega

structure BareInv (bar : Bool) (ks : List Tr) (w : World) (n : Nat) (s i : Value) (wr : World) : Prop where
  upd : Upd [] w wr
  st : ∃ k : Nat, k + n = ks.length ∧ i = .int .i64 k ∧ s = .string (str (Sp.texts bar true (ks.take k)))

set_option maxHeartbeats 400000 in
theorem bare_dot (p : Nat) (a : Lab) (ks : List Tr) (l : Value) (w : World) (h : PtAt w p (psOf a l)) (hk : a.kind = 1) : BareC p ⟨a, ks⟩ w := by
  have HR : Hid (Sp.bareT ⟨a, ks⟩ = [46]) := by show Sp.bare1 a _ = _; unfold Sp.bare1; rw [if_pos hk]
  obtain ⟨p0, p1, p258, p259', p260, p261, p262, p263, pz⟩ := h.facts
  have p259 : w.cell? ⟨p, 259, none⟩ = some (.bool true) := by rw [p259']; simp [psOf, hk]
  clear p259' p0 p1 p258 p260 p261 p262 p263 h hk
  unfold BareC
  go_enter Tryd.func21, Tryd.ntmps21
  go_wp2_with fail
  go_ret
  exact ⟨ret_str (by rw [HR.out]; rfl), Upd.refl _ _⟩

set_option maxHeartbeats 1000000 in
theorem bare_choice (p : Nat) (a : Lab) (ks : List Tr) (l : Value) (qs : List Nat) (w : World) (h : NodeAt w p a l qs) (hks : Sp.TrsOK ks) (hlen : qs.length = ks.length) (hn : Sp.nodes ks ≤ 1000) (hih : ∀ w', Upd [] w w' → ∀ (i q : Nat) (t : Tr), qs[i]? = some q → ks[i]? = some t → TextC q t w') (hk : a.kind = 4) : BareC p ⟨a, ks⟩ w := by
  have HR : Hid (Sp.bareT ⟨a, ks⟩ = Sp.texts true true ks) := by show Sp.bare1 a _ = _; unfold Sp.bare1; rw [if_neg (by omega), if_neg (by omega), if_neg (by omega), if_neg (by omega)]; simp [hk]
  have HN : Hid (NodeAt w p a l qs) := h
  have HIH : Hid (∀ w', Upd [] w w' → ∀ (i q : Nat) (t : Tr), qs[i]? = some q → ks[i]? = some t → TextC q t w') := hih
  have HL : Hid (qs.length = ks.length) := hlen
  have hql : qs.length ≤ 1000 := by have := Sp.length_le_nodes ks; omega
  have hp : p < w.heap.size := h.pt.lt
  have HT : Hid (∀ k, (Sp.texts true true (ks.take k)).length ≤ 3000000) := fun k => by have h1 := Sp.texts_le true (ks.take k) true; have h2 := nodes_take ks k; omega
  obtain ⟨p0', p1', p258, p259', p260', p261', p262, p263, pz⟩ := h.pt.facts
  have p0 : w.cell? ⟨p, 0, none⟩ = some (.int .u8 124) := by rw [p0']; simp [psOf, hk, kindOf]
  have p1 : w.cell? ⟨p, 1, none⟩ = some l := p1'
  have p259 : w.cell? ⟨p, 259, none⟩ = some (.bool false) := by rw [p259']; simp [psOf, hk]
  have p260 : w.cell? ⟨p, 260, none⟩ = some (.bool false) := by rw [p260']; simp [psOf, hk]
  have p261 : w.cell? ⟨p, 261, none⟩ = some (.bool a.told) := by rw [p261']; simp [psOf]
  have HC : Hid (w.cell? ⟨p, 0, none⟩ = some (.int .u8 124) ∧ w.cell? ⟨p, 1, none⟩ = some l ∧ w.cell? ⟨p, 261, none⟩ = some (.bool a.told)) := ⟨p0, p1, p261⟩
  clear h hih hlen p0' p1' p259' p260' p261' p258 p262 p263 pz
  unfold BareC
  rcases own_cells HN.out.own with ⟨hl, hqs⟩ | ⟨g, cap, hl, hcap, hmax, hcell⟩
  · subst hl
    subst hqs
    have hks0 : ks = [] := List.eq_nil_of_length_eq_zero (by have := HL.out; simpa using this.symm)
    subst hks0
    go_enter Tryd.func21, Tryd.ntmps21
    go_wp2_with fail
    refine wp_loop_rounds 1 ?_
    rw [rounds_succ]
    go_wp2_with fail
    go_ret
    exact ⟨ret_str (by rw [HR.out, Sp.texts]; rfl), Upd.refl _ _⟩
  · subst hl
    have HG : Hid (∀ i q, qs[i]? = some q → w.cell? ⟨g, i, none⟩ = some (ptr q)) := hcell
    have hgl : qs.length = 0 ∨ g < w.heap.size := by
      rcases ownBlock_lt HN.out.own (g := g) rfl with ⟨h1, _⟩
      exact Or.inr h1
    clear hcell hcap hmax
    go_enter Tryd.func21, Tryd.ntmps21
    go_wp2_with fail
    go_loopg [3, 5] ks.length (fun gn s iv wr => BareInv true ks w gn s iv wr)
    case atStart => exact ⟨Upd.refl _ _, 0, by omega, rfl, by rw [List.take_zero, Sp.texts]; rfl⟩
    case round =>
      obtain ⟨hu, k, hkn, rfl, rfl⟩ := hrel
      have HU : Hid (Upd [] w wr) := hu
      have c0 : wr.cell? ⟨p, 0, none⟩ = some (.int .u8 124) := (hu.cells p 0 hp).trans HC.out.1
      have c1 : wr.cell? ⟨p, 1, none⟩ = some (.slice (some ⟨g, 0, none⟩) qs.length cap) := (hu.cells p 1 hp).trans HC.out.2.1
      have c261 : wr.cell? ⟨p, 261, none⟩ = some (.bool a.told) := (hu.cells p 261 hp).trans HC.out.2.2
      have hlk := HT.out k
      clear hu p0 p1 p259 p260 p261
      by_cases hlt : k < qs.length
      · obtain ⟨q, hq⟩ : ∃ q, qs[k]? = some q := ⟨_, List.getElem?_eq_getElem hlt⟩
        obtain ⟨tk, ht⟩ : ∃ t, ks[k]? = some t := ⟨_, List.getElem?_eq_getElem (by have := HL.out; omega)⟩
        have hc : wr.cell? ⟨g, k, none⟩ = some (.pointer (some ⟨q, 0, none⟩)) := (HU.out.cells g k (by rcases hgl with q | q; omega; exact q)).trans (HG.out k q hq)
        have HCall : Hid (∀ w', Upd [] w w' → TextC q tk w') := fun w' hw' => HIH.out w' hw' k q tk hq ht
        have HX : Hid (Sp.texts true true (ks.take (k + 1)) = Sp.texts true true (ks.take k) ++ ((if true && decide (0 < k) then [124] else []) ++ Sp.text tk)) := texts_take _ ht
        have htl : (Sp.text tk).length ≤ 3000000 := by have h1 := text_le tk; have h2 := nodes_mem ks tk (List.mem_of_getElem? ht); omega
        have HLk : Hid (qs.length = ks.length) := HL.out
        obtain ⟨fuel, rfl⟩ : ∃ n, gk = n + 1 := ⟨gk - 1, by have := HL.out; omega⟩
        clear hq ht
        generalize hS : Sp.texts true true (ks.take k) = S at *
        generalize hTT : Sp.text tk = T at *
        have HS : Hid (Sp.texts true true (ks.take k) = S ∧ Sp.text tk = T) := ⟨hS, hTT⟩
        have HX' : Hid (Sp.texts true true (ks.take (k + 1)) = S ++ ((if true && decide (0 < k) then [124] else []) ++ T)) := HX.out
        clear hS hTT HX
        by_cases hz : 0 < k
        · have hz1 : decide ((0 : Int) < k) = true := by simp; omega
          have k1 : ∀ w, (Op.stringOp .add (str S) ⟨#[124]⟩).run Tryd.prog w = .ok (.string (str (cat S [124]))) w := addS S [124] (by omega) (by simp)
          have k2 := addS (cat S [124]) T (by rw [cat_len]; simp; omega) (by omega)
          go_wp2_with fail
          have hcall := HCall.out _ HU.out
          unfold TextC at hcall
          rw [HS.out.2] at hcall
          refine hcall.mono ?_
          clear hcall
          rintro e w3 ⟨rfl, hu3⟩
          have HU3 : Hid (Upd [] w w3) := HU.out.trans hu3
          clear hu3
          go_wp2_with fail
          go_roundg fuel
          case measure => omega
          case rel => exact ⟨HU3.out, k + 1, by omega, by go_num, by rw [HX'.out]; simp [cat, hz]⟩
        · have k2 := addS S T (by omega) (by omega)
          go_wp2_with fail
          have hcall := HCall.out _ HU.out
          unfold TextC at hcall
          rw [HS.out.2] at hcall
          refine hcall.mono ?_
          clear hcall
          rintro e w3 ⟨rfl, hu3⟩
          have HU3 : Hid (Upd [] w w3) := HU.out.trans hu3
          clear hu3
          go_wp2_with fail
          go_roundg fuel
          case measure => omega
          case rel => exact ⟨HU3.out, k + 1, by omega, by go_num, by rw [HX'.out]; simp [cat, hz]⟩
      · have hkl : ks.take k = ks := List.take_of_length_le (by have := HL.out; omega)
        rw [hkl] at hlk ⊢
        generalize hS : Sp.texts true true ks = S at *
        have HS : Hid (Sp.texts true true ks = S) := hS
        clear hS hkl
        go_wp2_with fail
        go_ret
        exact ⟨ret_str (by rw [HR.out]), HU.out⟩

set_option maxHeartbeats 1000000 in
theorem bare_row (p : Nat) (a : Lab) (ks : List Tr) (l : Value) (qs : List Nat) (w : World) (h : NodeAt w p a l qs) (hks : Sp.TrsOK ks) (hlen : qs.length = ks.length) (hn : Sp.nodes ks ≤ 1000) (hih : ∀ w', Upd [] w w' → ∀ (i q : Nat) (t : Tr), qs[i]? = some q → ks[i]? = some t → TextC q t w') (hk : a.kind = 5) : BareC p ⟨a, ks⟩ w := by
  have HR : Hid (Sp.bareT ⟨a, ks⟩ = Sp.texts false true ks) := by show Sp.bare1 a _ = _; unfold Sp.bare1; rw [if_neg (by omega), if_neg (by omega), if_neg (by omega), if_neg (by omega)]; simp [hk]
  have HN : Hid (NodeAt w p a l qs) := h
  have HIH : Hid (∀ w', Upd [] w w' → ∀ (i q : Nat) (t : Tr), qs[i]? = some q → ks[i]? = some t → TextC q t w') := hih
  have HL : Hid (qs.length = ks.length) := hlen
  have hql : qs.length ≤ 1000 := by have := Sp.length_le_nodes ks; omega
  have hp : p < w.heap.size := h.pt.lt
  have HT : Hid (∀ k, (Sp.texts false true (ks.take k)).length ≤ 3000000) := fun k => by have h1 := Sp.texts_le false (ks.take k) true; have h2 := nodes_take ks k; omega
  obtain ⟨p0', p1', p258, p259', p260', p261', p262, p263, pz⟩ := h.pt.facts
  have p0 : w.cell? ⟨p, 0, none⟩ = some (.int .u8 32) := by rw [p0']; simp [psOf, hk, kindOf]
  have p1 : w.cell? ⟨p, 1, none⟩ = some l := p1'
  have p259 : w.cell? ⟨p, 259, none⟩ = some (.bool false) := by rw [p259']; simp [psOf, hk]
  have p260 : w.cell? ⟨p, 260, none⟩ = some (.bool false) := by rw [p260']; simp [psOf, hk]
  have p261 : w.cell? ⟨p, 261, none⟩ = some (.bool a.told) := by rw [p261']; simp [psOf]
  have HC : Hid (w.cell? ⟨p, 0, none⟩ = some (.int .u8 32) ∧ w.cell? ⟨p, 1, none⟩ = some l ∧ w.cell? ⟨p, 261, none⟩ = some (.bool a.told)) := ⟨p0, p1, p261⟩
  clear h hih hlen p0' p1' p259' p260' p261' p258 p262 p263 pz
  unfold BareC
  rcases own_cells HN.out.own with ⟨hl, hqs⟩ | ⟨g, cap, hl, hcap, hmax, hcell⟩
  · subst hl
    subst hqs
    have hks0 : ks = [] := List.eq_nil_of_length_eq_zero (by have := HL.out; simpa using this.symm)
    subst hks0
    go_enter Tryd.func21, Tryd.ntmps21
    go_wp2_with fail
    refine wp_loop_rounds 1 ?_
    rw [rounds_succ]
    go_wp2_with fail
    go_ret
    exact ⟨ret_str (by rw [HR.out, Sp.texts]; rfl), Upd.refl _ _⟩
  · subst hl
    have HG : Hid (∀ i q, qs[i]? = some q → w.cell? ⟨g, i, none⟩ = some (ptr q)) := hcell
    have hgl : qs.length = 0 ∨ g < w.heap.size := by
      rcases ownBlock_lt HN.out.own (g := g) rfl with ⟨h1, _⟩
      exact Or.inr h1
    clear hcell hcap hmax
    go_enter Tryd.func21, Tryd.ntmps21
    go_wp2_with fail
    go_loopg [3, 5] ks.length (fun gn s iv wr => BareInv false ks w gn s iv wr)
    case atStart => exact ⟨Upd.refl _ _, 0, by omega, rfl, by rw [List.take_zero, Sp.texts]; rfl⟩
    case round =>
      obtain ⟨hu, k, hkn, rfl, rfl⟩ := hrel
      have HU : Hid (Upd [] w wr) := hu
      have c0 : wr.cell? ⟨p, 0, none⟩ = some (.int .u8 32) := (hu.cells p 0 hp).trans HC.out.1
      have c1 : wr.cell? ⟨p, 1, none⟩ = some (.slice (some ⟨g, 0, none⟩) qs.length cap) := (hu.cells p 1 hp).trans HC.out.2.1
      have c261 : wr.cell? ⟨p, 261, none⟩ = some (.bool a.told) := (hu.cells p 261 hp).trans HC.out.2.2
      have hlk := HT.out k
      clear hu p0 p1 p259 p260 p261
      by_cases hlt : k < qs.length
      · obtain ⟨q, hq⟩ : ∃ q, qs[k]? = some q := ⟨_, List.getElem?_eq_getElem hlt⟩
        obtain ⟨tk, ht⟩ : ∃ t, ks[k]? = some t := ⟨_, List.getElem?_eq_getElem (by have := HL.out; omega)⟩
        have hc : wr.cell? ⟨g, k, none⟩ = some (.pointer (some ⟨q, 0, none⟩)) := (HU.out.cells g k (by rcases hgl with q | q; omega; exact q)).trans (HG.out k q hq)
        have HCall : Hid (∀ w', Upd [] w w' → TextC q tk w') := fun w' hw' => HIH.out w' hw' k q tk hq ht
        have HX : Hid (Sp.texts false true (ks.take (k + 1)) = Sp.texts false true (ks.take k) ++ ((if false && decide (0 < k) then [124] else []) ++ Sp.text tk)) := texts_take _ ht
        have htl : (Sp.text tk).length ≤ 3000000 := by have h1 := text_le tk; have h2 := nodes_mem ks tk (List.mem_of_getElem? ht); omega
        have HLk : Hid (qs.length = ks.length) := HL.out
        obtain ⟨fuel, rfl⟩ : ∃ n, gk = n + 1 := ⟨gk - 1, by have := HL.out; omega⟩
        clear hq ht
        generalize hS : Sp.texts false true (ks.take k) = S at *
        generalize hTT : Sp.text tk = T at *
        have HS : Hid (Sp.texts false true (ks.take k) = S ∧ Sp.text tk = T) := ⟨hS, hTT⟩
        have HX' : Hid (Sp.texts false true (ks.take (k + 1)) = S ++ ((if false && decide (0 < k) then [124] else []) ++ T)) := HX.out
        clear hS hTT HX
        have k2 := addS S T (by omega) (by omega)
        by_cases hz : 0 < k
        all_goals
          go_wp2_with fail
          have hcall := HCall.out _ HU.out
          unfold TextC at hcall
          rw [HS.out.2] at hcall
          refine hcall.mono ?_
          clear hcall
          rintro e w3 ⟨rfl, hu3⟩
          have HU3 : Hid (Upd [] w w3) := HU.out.trans hu3
          clear hu3
          go_wp2_with fail
          go_roundg fuel
          case measure => omega
          case rel => exact ⟨HU3.out, k + 1, by omega, by go_num, by rw [HX'.out]; simp [cat]⟩
      · have hkl : ks.take k = ks := List.take_of_length_le (by have := HL.out; omega)
        rw [hkl] at hlk ⊢
        generalize hS : Sp.texts false true ks = S at *
        have HS : Hid (Sp.texts false true ks = S) := hS
        clear hS hkl
        go_wp2_with fail
        go_ret
        exact ⟨ret_str (by rw [HR.out]), HU.out⟩

set_option maxHeartbeats 1000000 in
theorem bare_told (p : Nat) (a : Lab) (ks : List Tr) (l : Value) (qs : List Nat) (w : World) (h : NodeAt w p a l qs) (hks : Sp.TrsOK ks) (hlen : qs.length = ks.length) (hn : Sp.nodes ks ≤ 1000) (hih : ∀ w', Upd [] w w' → ∀ (i q : Nat) (t : Tr), qs[i]? = some q → ks[i]? = some t → TextC q t w') (hk : a.kind = 3) (ht : a.told = true) : BareC p ⟨a, ks⟩ w := by
  have HR : Hid (Sp.bareT ⟨a, ks⟩ = [40] ++ Sp.texts false true ks ++ [41]) := by show Sp.bare1 a _ = _; unfold Sp.bare1; rw [if_neg (by omega), if_neg (by omega), if_neg (by omega), if_pos hk, if_pos ht]; simp [hk]
  have HN : Hid (NodeAt w p a l qs) := h
  have HIH : Hid (∀ w', Upd [] w w' → ∀ (i q : Nat) (t : Tr), qs[i]? = some q → ks[i]? = some t → TextC q t w') := hih
  have HL : Hid (qs.length = ks.length) := hlen
  have hql : qs.length ≤ 1000 := by have := Sp.length_le_nodes ks; omega
  have hp : p < w.heap.size := h.pt.lt
  have HT : Hid (∀ k, (Sp.texts false true (ks.take k)).length ≤ 3000000) := fun k => by have h1 := Sp.texts_le false (ks.take k) true; have h2 := nodes_take ks k; omega
  obtain ⟨p0', p1', p258, p259', p260', p261', p262, p263, pz⟩ := h.pt.facts
  have p0 : w.cell? ⟨p, 0, none⟩ = some (.int .u8 40) := by rw [p0']; simp [psOf, hk, kindOf]
  have p1 : w.cell? ⟨p, 1, none⟩ = some l := p1'
  have p259 : w.cell? ⟨p, 259, none⟩ = some (.bool false) := by rw [p259']; simp [psOf, hk]
  have p260 : w.cell? ⟨p, 260, none⟩ = some (.bool false) := by rw [p260']; simp [psOf, hk]
  have p261 : w.cell? ⟨p, 261, none⟩ = some (.bool true) := by rw [p261']; simp [psOf, ht]
  have HC : Hid (w.cell? ⟨p, 0, none⟩ = some (.int .u8 40) ∧ w.cell? ⟨p, 1, none⟩ = some l ∧ w.cell? ⟨p, 261, none⟩ = some (.bool true)) := ⟨p0, p1, p261⟩
  clear h hih hlen p0' p1' p259' p260' p261' p258 p262 p263 pz
  unfold BareC
  rcases own_cells HN.out.own with ⟨hl, hqs⟩ | ⟨g, cap, hl, hcap, hmax, hcell⟩
  · subst hl
    subst hqs
    have hks0 : ks = [] := List.eq_nil_of_length_eq_zero (by have := HL.out; simpa using this.symm)
    subst hks0
    go_enter Tryd.func21, Tryd.ntmps21
    go_wp2_with fail
    refine wp_loop_rounds 1 ?_
    rw [rounds_succ]
    go_wp2_with fail
    go_ret
    exact ⟨ret_str (by rw [HR.out, Sp.texts]; rfl), Upd.refl _ _⟩
  · subst hl
    have HG : Hid (∀ i q, qs[i]? = some q → w.cell? ⟨g, i, none⟩ = some (ptr q)) := hcell
    have hgl : qs.length = 0 ∨ g < w.heap.size := by
      rcases ownBlock_lt HN.out.own (g := g) rfl with ⟨h1, _⟩
      exact Or.inr h1
    clear hcell hcap hmax
    go_enter Tryd.func21, Tryd.ntmps21
    go_wp2_with fail
    go_loopg [3, 5] ks.length (fun gn s iv wr => BareInv false ks w gn s iv wr)
    case atStart => exact ⟨Upd.refl _ _, 0, by omega, rfl, by rw [List.take_zero, Sp.texts]; rfl⟩
    case round =>
      obtain ⟨hu, k, hkn, rfl, rfl⟩ := hrel
      have HU : Hid (Upd [] w wr) := hu
      have c0 : wr.cell? ⟨p, 0, none⟩ = some (.int .u8 40) := (hu.cells p 0 hp).trans HC.out.1
      have c1 : wr.cell? ⟨p, 1, none⟩ = some (.slice (some ⟨g, 0, none⟩) qs.length cap) := (hu.cells p 1 hp).trans HC.out.2.1
      have c261 : wr.cell? ⟨p, 261, none⟩ = some (.bool true) := (hu.cells p 261 hp).trans HC.out.2.2
      have hlk := HT.out k
      clear hu p0 p1 p259 p260 p261
      by_cases hlt : k < qs.length
      · obtain ⟨q, hq⟩ : ∃ q, qs[k]? = some q := ⟨_, List.getElem?_eq_getElem hlt⟩
        obtain ⟨tk, ht⟩ : ∃ t, ks[k]? = some t := ⟨_, List.getElem?_eq_getElem (by have := HL.out; omega)⟩
        have hc : wr.cell? ⟨g, k, none⟩ = some (.pointer (some ⟨q, 0, none⟩)) := (HU.out.cells g k (by rcases hgl with q | q; omega; exact q)).trans (HG.out k q hq)
        have HCall : Hid (∀ w', Upd [] w w' → TextC q tk w') := fun w' hw' => HIH.out w' hw' k q tk hq ht
        have HX : Hid (Sp.texts false true (ks.take (k + 1)) = Sp.texts false true (ks.take k) ++ ((if false && decide (0 < k) then [124] else []) ++ Sp.text tk)) := texts_take _ ht
        have htl : (Sp.text tk).length ≤ 3000000 := by have h1 := text_le tk; have h2 := nodes_mem ks tk (List.mem_of_getElem? ht); omega
        have HLk : Hid (qs.length = ks.length) := HL.out
        obtain ⟨fuel, rfl⟩ : ∃ n, gk = n + 1 := ⟨gk - 1, by have := HL.out; omega⟩
        clear hq ht
        generalize hS : Sp.texts false true (ks.take k) = S at *
        generalize hTT : Sp.text tk = T at *
        have HS : Hid (Sp.texts false true (ks.take k) = S ∧ Sp.text tk = T) := ⟨hS, hTT⟩
        have HX' : Hid (Sp.texts false true (ks.take (k + 1)) = S ++ ((if false && decide (0 < k) then [124] else []) ++ T)) := HX.out
        clear hS hTT HX
        have k2 := addS S T (by omega) (by omega)
        by_cases hz : 0 < k
        all_goals
          go_wp2_with fail
          have hcall := HCall.out _ HU.out
          unfold TextC at hcall
          rw [HS.out.2] at hcall
          refine hcall.mono ?_
          clear hcall
          rintro e w3 ⟨rfl, hu3⟩
          have HU3 : Hid (Upd [] w w3) := HU.out.trans hu3
          clear hu3
          go_wp2_with fail
          go_roundg fuel
          case measure => omega
          case rel => exact ⟨HU3.out, k + 1, by omega, by go_num, by rw [HX'.out]; simp [cat]⟩
      · have hkl : ks.take k = ks := List.take_of_length_le (by have := HL.out; omega)
        rw [hkl] at hlk ⊢
        generalize hS : Sp.texts false true ks = S at *
        have HS : Hid (Sp.texts false true ks = S) := hS
        clear hS hkl
        have k1 : ∀ w, (Op.stringOp .add ⟨#[40]⟩ (str S)).run Tryd.prog w = .ok (.string (str (cat [40] S))) w := addS [40] S (by simp) (by omega)
        have k2 : ∀ w, (Op.stringOp .add (str (cat [40] S)) ⟨#[41]⟩).run Tryd.prog w = .ok (.string (str (cat (cat [40] S) [41]))) w := addS (cat [40] S) [41] (by rw [cat_len]; simp; omega) (by simp)
        go_wp2_with fail
        go_ret
        exact ⟨ret_str (by rw [HR.out]; rfl), HU.out⟩

set_option maxHeartbeats 1000000 in
theorem bare_quiet (p : Nat) (a : Lab) (ks : List Tr) (l : Value) (qs : List Nat) (w : World) (h : NodeAt w p a l qs) (hks : Sp.TrsOK ks) (hlen : qs.length = ks.length) (hn : Sp.nodes ks ≤ 1000) (hih : ∀ w', Upd [] w w' → ∀ (i q : Nat) (t : Tr), qs[i]? = some q → ks[i]? = some t → TextC q t w') (hk : a.kind = 3) (ht : a.told = false) : BareC p ⟨a, ks⟩ w := by
  have HR : Hid (Sp.bareT ⟨a, ks⟩ = [40, 63, 58] ++ Sp.texts false true ks ++ [41]) := by show Sp.bare1 a _ = _; unfold Sp.bare1; rw [if_neg (by omega), if_neg (by omega), if_neg (by omega), if_pos hk, if_neg (by simp [ht])]; simp [hk]
  have HN : Hid (NodeAt w p a l qs) := h
  have HIH : Hid (∀ w', Upd [] w w' → ∀ (i q : Nat) (t : Tr), qs[i]? = some q → ks[i]? = some t → TextC q t w') := hih
  have HL : Hid (qs.length = ks.length) := hlen
  have hql : qs.length ≤ 1000 := by have := Sp.length_le_nodes ks; omega
  have hp : p < w.heap.size := h.pt.lt
  have HT : Hid (∀ k, (Sp.texts false true (ks.take k)).length ≤ 3000000) := fun k => by have h1 := Sp.texts_le false (ks.take k) true; have h2 := nodes_take ks k; omega
  obtain ⟨p0', p1', p258, p259', p260', p261', p262, p263, pz⟩ := h.pt.facts
  have p0 : w.cell? ⟨p, 0, none⟩ = some (.int .u8 40) := by rw [p0']; simp [psOf, hk, kindOf]
  have p1 : w.cell? ⟨p, 1, none⟩ = some l := p1'
  have p259 : w.cell? ⟨p, 259, none⟩ = some (.bool false) := by rw [p259']; simp [psOf, hk]
  have p260 : w.cell? ⟨p, 260, none⟩ = some (.bool false) := by rw [p260']; simp [psOf, hk]
  have p261 : w.cell? ⟨p, 261, none⟩ = some (.bool false) := by rw [p261']; simp [psOf, ht]
  have HC : Hid (w.cell? ⟨p, 0, none⟩ = some (.int .u8 40) ∧ w.cell? ⟨p, 1, none⟩ = some l ∧ w.cell? ⟨p, 261, none⟩ = some (.bool false)) := ⟨p0, p1, p261⟩
  clear h hih hlen p0' p1' p259' p260' p261' p258 p262 p263 pz
  unfold BareC
  rcases own_cells HN.out.own with ⟨hl, hqs⟩ | ⟨g, cap, hl, hcap, hmax, hcell⟩
  · subst hl
    subst hqs
    have hks0 : ks = [] := List.eq_nil_of_length_eq_zero (by have := HL.out; simpa using this.symm)
    subst hks0
    go_enter Tryd.func21, Tryd.ntmps21
    go_wp2_with fail
    refine wp_loop_rounds 1 ?_
    rw [rounds_succ]
    go_wp2_with fail
    go_ret
    exact ⟨ret_str (by rw [HR.out, Sp.texts]; rfl), Upd.refl _ _⟩
  · subst hl
    have HG : Hid (∀ i q, qs[i]? = some q → w.cell? ⟨g, i, none⟩ = some (ptr q)) := hcell
    have hgl : qs.length = 0 ∨ g < w.heap.size := by
      rcases ownBlock_lt HN.out.own (g := g) rfl with ⟨h1, _⟩
      exact Or.inr h1
    clear hcell hcap hmax
    go_enter Tryd.func21, Tryd.ntmps21
    go_wp2_with fail
    go_loopg [3, 5] ks.length (fun gn s iv wr => BareInv false ks w gn s iv wr)
    case atStart => exact ⟨Upd.refl _ _, 0, by omega, rfl, by rw [List.take_zero, Sp.texts]; rfl⟩
    case round =>
      obtain ⟨hu, k, hkn, rfl, rfl⟩ := hrel
      have HU : Hid (Upd [] w wr) := hu
      have c0 : wr.cell? ⟨p, 0, none⟩ = some (.int .u8 40) := (hu.cells p 0 hp).trans HC.out.1
      have c1 : wr.cell? ⟨p, 1, none⟩ = some (.slice (some ⟨g, 0, none⟩) qs.length cap) := (hu.cells p 1 hp).trans HC.out.2.1
      have c261 : wr.cell? ⟨p, 261, none⟩ = some (.bool false) := (hu.cells p 261 hp).trans HC.out.2.2
      have hlk := HT.out k
      clear hu p0 p1 p259 p260 p261
      by_cases hlt : k < qs.length
      · obtain ⟨q, hq⟩ : ∃ q, qs[k]? = some q := ⟨_, List.getElem?_eq_getElem hlt⟩
        obtain ⟨tk, ht⟩ : ∃ t, ks[k]? = some t := ⟨_, List.getElem?_eq_getElem (by have := HL.out; omega)⟩
        have hc : wr.cell? ⟨g, k, none⟩ = some (.pointer (some ⟨q, 0, none⟩)) := (HU.out.cells g k (by rcases hgl with q | q; omega; exact q)).trans (HG.out k q hq)
        have HCall : Hid (∀ w', Upd [] w w' → TextC q tk w') := fun w' hw' => HIH.out w' hw' k q tk hq ht
        have HX : Hid (Sp.texts false true (ks.take (k + 1)) = Sp.texts false true (ks.take k) ++ ((if false && decide (0 < k) then [124] else []) ++ Sp.text tk)) := texts_take _ ht
        have htl : (Sp.text tk).length ≤ 3000000 := by have h1 := text_le tk; have h2 := nodes_mem ks tk (List.mem_of_getElem? ht); omega
        have HLk : Hid (qs.length = ks.length) := HL.out
        obtain ⟨fuel, rfl⟩ : ∃ n, gk = n + 1 := ⟨gk - 1, by have := HL.out; omega⟩
        clear hq ht
        generalize hS : Sp.texts false true (ks.take k) = S at *
        generalize hTT : Sp.text tk = T at *
        have HS : Hid (Sp.texts false true (ks.take k) = S ∧ Sp.text tk = T) := ⟨hS, hTT⟩
        have HX' : Hid (Sp.texts false true (ks.take (k + 1)) = S ++ ((if false && decide (0 < k) then [124] else []) ++ T)) := HX.out
        clear hS hTT HX
        have k2 := addS S T (by omega) (by omega)
        by_cases hz : 0 < k
        all_goals
          go_wp2_with fail
          have hcall := HCall.out _ HU.out
          unfold TextC at hcall
          rw [HS.out.2] at hcall
          refine hcall.mono ?_
          clear hcall
          rintro e w3 ⟨rfl, hu3⟩
          have HU3 : Hid (Upd [] w w3) := HU.out.trans hu3
          clear hu3
          go_wp2_with fail
          go_roundg fuel
          case measure => omega
          case rel => exact ⟨HU3.out, k + 1, by omega, by go_num, by rw [HX'.out]; simp [cat]⟩
      · have hkl : ks.take k = ks := List.take_of_length_le (by have := HL.out; omega)
        rw [hkl] at hlk ⊢
        generalize hS : Sp.texts false true ks = S at *
        have HS : Hid (Sp.texts false true ks = S) := hS
        clear hS hkl
        have k1 : ∀ w, (Op.stringOp .add ⟨#[40, 63, 58]⟩ (str S)).run Tryd.prog w = .ok (.string (str (cat [40, 63, 58] S))) w := addS [40, 63, 58] S (by simp) (by omega)
        have k2 : ∀ w, (Op.stringOp .add (str (cat [40, 63, 58] S)) ⟨#[41]⟩).run Tryd.prog w = .ok (.string (str (cat (cat [40, 63, 58] S) [41]))) w := addS (cat [40, 63, 58] S) [41] (by rw [cat_len]; simp; omega) (by simp)
        go_wp2_with fail
        go_ret
        exact ⟨ret_str (by rw [HR.out]; rfl), HU.out⟩

end Go.Proofs.YtcpfpnjkfahjcaaDoor
