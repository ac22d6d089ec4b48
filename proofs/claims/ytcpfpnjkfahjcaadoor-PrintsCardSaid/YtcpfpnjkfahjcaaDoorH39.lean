import Derived.Test.YtcpfpnjkfahjcaaDoorH38
set_option linter.unusedSimpArgs false
set_option linter.unusedVariables false
namespace Go.Proofs.YtcpfpnjkfahjcaaDoor
open Go.RowKit

theorem Sp.Cp.add_len (c : Sp.Cp) (n : Sp.Nd) : (c.add n).1.ns.length = c.ns.length + 1 := by simp [Sp.Cp.add]
theorem Sp.pick_len : ∀ (l : List Int) (x : Sp.Cp × Int), x.1.ns.length ≤ (Sp.pick l x).1.ns.length
  | [], _ => Nat.le_refl _
  | k :: r, x => by
    rw [Sp.pick]
    have := Sp.pick_len r (if x.2 < 0 then (x.1, k) else x.1.add (Sp.nd 3 k x.2))
    split at this
    · rename_i h; rw [if_pos h]; exact this
    · rename_i h; rw [if_neg h]; rw [Sp.Cp.add_len] at this; omega
theorem Sp.chain_len : ∀ (l : List Int) (x : Sp.Cp × Int), (Sp.chain l x).1.ns.length = x.1.ns.length + l.length
  | [], _ => rfl
  | k :: r, x => by rw [Sp.chain, Sp.chain_len r, Sp.Cp.add_len]; simp; omega
theorem Sp.open1_len (a : Lab) (c : Sp.Cp) : (Sp.open1 a c).ns = c.ns := by unfold Sp.open1; split <;> rfl
theorem Sp.bareEnd_len (a : Lab) (c : Sp.Cp) (x : Sp.Cp × List Int) (h : c.ns.length ≤ x.1.ns.length) : c.ns.length ≤ (Sp.bareEnd a c x).1.ns.length := by
  unfold Sp.bareEnd; repeat' split
  · rw [Sp.Cp.add_len]; omega
  · rw [Sp.Cp.add_len]; omega
  · have := Sp.pick_len x.2.reverse (x.1, -1); simp at this; omega
  · rw [Sp.chain_len, Sp.Cp.add_len]; omega
theorem Sp.comps_len : ∀ (l : List Tr) (c : Sp.Cp), c.ns.length ≤ (Sp.comps l c).1.ns.length
  | [], c => by rw [Sp.comps_nil]; exact Nat.le_refl _
  | ⟨a, ks⟩ :: r, c => by
    rw [Sp.comps_cons]
    have h1 := Sp.comps_len ks (Sp.open1 a c)
    rw [Sp.open1_len] at h1
    have h3 := Sp.bareEnd_len a c (Sp.comps ks (Sp.open1 a c)) h1
    have h4 : (Sp.bareEnd a c (Sp.comps ks (Sp.open1 a c))).1.ns.length ≤ (Sp.comp ⟨a, ks⟩ c).1.ns.length := Sp.wrap_len _ _
    have h5 := Sp.comps_len r (Sp.comp ⟨a, ks⟩ c).1
    show _ ≤ (Sp.comps r _).1.ns.length
    omega
theorem Sp.comps_append : ∀ (l m : List Tr) (c : Sp.Cp), Sp.comps (l ++ m) c = ((Sp.comps m (Sp.comps l c).1).1, (Sp.comps l c).2 ++ (Sp.comps m (Sp.comps l c).1).2)
  | [], m, c => by rw [Sp.comps_nil]; rfl
  | u :: r, m, c => by rw [List.cons_append, Sp.comps_cons, Sp.comps_append r m, Sp.comps_cons]; rfl
theorem Sp.comps_outs : ∀ (l : List Tr) (c : Sp.Cp), (Sp.comps l c).2.length = l.length
  | [], c => by rw [Sp.comps_nil]; rfl
  | u :: r, c => by rw [Sp.comps_cons]; simp [Sp.comps_outs r]
theorem Sp.comps_step {ks : List Tr} {j : Nat} {t : Tr} (c : Sp.Cp) (h : ks[j]? = some t) : Sp.comps (ks.take (j + 1)) c = ((Sp.comp t (Sp.comps (ks.take j) c).1).1, (Sp.comps (ks.take j) c).2 ++ [(Sp.comp t (Sp.comps (ks.take j) c).1).2]) := by
  rw [List.take_add_one, h]; exact Sp.comps_snoc t _ _
theorem Sp.comps_part (ks : List Tr) (j : Nat) (c : Sp.Cp) : (Sp.comps (ks.take j) c).1.ns.length ≤ (Sp.comps ks c).1.ns.length ∧ (Sp.comps (ks.take j) c).1.told ≤ (Sp.comps ks c).1.told ∧ c.told ≤ (Sp.comps (ks.take j) c).1.told := by
  have h : Sp.comps ks c = Sp.comps (ks.take j ++ ks.drop j) c := by rw [List.take_append_drop]
  rw [h, Sp.comps_append]
  exact ⟨Sp.comps_len _ _, Sp.comps_told _ _, Sp.comps_told _ _⟩
theorem Sp.chain_snoc (k : Int) : ∀ (l : List Int) (x : Sp.Cp × Int), Sp.chain (l ++ [k]) x = (Sp.chain l x).1.add (Sp.nd 2 k (Sp.chain l x).2)
  | [], _ => rfl
  | u :: r, x => by rw [List.cons_append, Sp.chain, Sp.chain_snoc k r, Sp.chain]
theorem Sp.pick_snoc (k : Int) : ∀ (l : List Int) (x : Sp.Cp × Int), Sp.pick (l ++ [k]) x = (if (Sp.pick l x).2 < 0 then ((Sp.pick l x).1, k) else (Sp.pick l x).1.add (Sp.nd 3 k (Sp.pick l x).2))
  | [], _ => rfl
  | u :: r, x => by rw [List.cons_append, Sp.pick, Sp.pick_snoc k r, Sp.pick]

def ints (l : List Int) : List Value := l.map (fun k => Value.int .i64 k)
/-- The numbers so far, beside the pattern. -/
structure LsAt (w wr : World) (p : Nat) (v : Value) (c : Sp.Cp) (top : Int) (outs : List Int) : Prop where
  own : wr.ownsRow w.heap.size 3 1 v outs.length (ints outs)
  cp : CpAt wr p c top
  bel : Bel p w wr
  sep : ∀ g, v.ownBlock = some g → ownB wr p ≠ some g
theorem LsAt.start {w : World} {p : Nat} {c : Sp.Cp} {top : Int} (h : CpAt w p c top) : LsAt w w p (.slice none 0 0) c top [] :=
  ⟨⟨by simp [ints], Or.inl ⟨rfl, rfl⟩⟩, h, Bel.refl _ _, fun g hg => by cases hg⟩
theorem LsAt.node {w wr w' : World} {p : Nat} {v : Value} {c c' : Sp.Cp} {top : Int} {outs : List Int} (h : LsAt w wr p v c top outs) (hp : p < w.heap.size) (u : Bel p wr w') (hc : CpAt w' p c' top) : LsAt w w' p v c' top outs :=
  ⟨ownsRow_same h.own (fun g hg hl => u.rest g hl (by have := (ownBlock_lt h.own hg).2; omega) (h.sep g hg)), hc, h.bel.trans u, fun g hg => u.own_ne (ownBlock_lt h.own hg).1 (h.sep g hg)⟩
theorem LsAt.app {w wr W w5 : World} {p : Nat} {v v' : Value} {c : Sp.Cp} {top : Int} {outs : List Int} {k : Int} (h : LsAt w wr p v c top outs) (hp : p < w.heap.size) (hW : ∀ k, k < wr.heap.size → W.heap[k]? = wr.heap[k]?) (hs : W.heap.size = wr.heap.size + 1) (ho : W.os = wr.os) (ht : W.tape = wr.tape) (hu : W.output = wr.output)
    (hg : W.grownBy w5 v.ownBlock) (hown : w5.ownsRow w.heap.size 3 1 v' (outs.length + 1) (ints outs ++ [.int .i64 k])) (hloc : v'.ownBlock = v.ownBlock ∨ v'.ownBlock = some W.heap.size) : LsAt w w5 p v' c top (outs ++ [k]) := by
  have hsz := h.bel.size
  have hb : ∀ i, i < wr.heap.size → v.ownBlock ≠ some i → w5.heap[i]? = wr.heap[i]? := fun i hi hn => (hg.block i (by omega) (fun e => hn e.symm)).trans (hW i hi)
  have hlow : ∀ i, i < w.heap.size → w5.heap[i]? = wr.heap[i]? := fun i hi => hb i (by omega) (fun e => by have := (ownBlock_lt h.own e).2; omega)
  have hO : ownB w5 p = ownB wr p := ownB_same (hlow p hp)
  have hcp := h.cp
  obtain ⟨x, hx⟩ := hcp
  have hxo := hx.ownB
  refine ⟨by simpa [ints] using hown, ⟨x, ⟨by rw [hlow p hp]; exact hx.block, ownsRow_same hx.own (fun g hg' hl => hb g hl (fun e => h.sep g e (by rw [hxo, hg'])))⟩⟩, ?_, ?_⟩
  · have hgs := hg.size
    exact ⟨hg.os.trans (ho.trans h.bel.os), hg.tape.trans (ht.trans h.bel.tape), hg.output.trans (hu.trans h.bel.output), by omega, fun i h1 h2 => (hlow i h2).trans (h.bel.block i h1 h2), fun i h1 h2 h3 => (hlow i h1).trans (h.bel.rest i h1 h2 h3), by rw [hO]; exact h.bel.own⟩
  · intro g hg'
    rw [hO]
    rcases hloc with q | q
    · exact h.sep g (q ▸ hg')
    · rw [q] at hg'; simp at hg'
      rw [hxo]; intro e; have := (ownBlock_lt hx.own e).1; omega

theorem infoInt : ∃ i, Tryd.prog.info? 3 = some i ∧ i.zero = some (.int .i64 0) ∧ i.size = 1 ∧ i.bytes = 8 := by
  have h : (Tryd.prog.info? 3).map (fun i => (i.zero, i.size, i.bytes)) = some (some (.int .i64 0), 1, 8) := by kernel_rfl
  cases hi : Tryd.prog.info? 3 with
  | none => rw [hi] at h; cases h
  | some i => rw [hi] at h; simp at h; exact ⟨i, rfl, h.1, h.2.1, h.2.2⟩
end Go.Proofs.YtcpfpnjkfahjcaaDoor

set_option linter.unusedSimpArgs false
set_option linter.unusedVariables false
namespace Go.Proofs.YtcpfpnjkfahjcaaDoor
open Go.RowKit
attribute [local go_sem ↓] build_bigNode loadAt_node storeAt_node

theorem own_ints {w : World} {b : Nat} {v : Value} {outs : List Int} (h : w.ownsRow b 3 1 v outs.length (ints outs)) : (v = .slice none 0 0 ∧ outs = []) ∨ ∃ g cap, v = .slice (some ⟨g, 0, none⟩) outs.length cap ∧ outs.length ≤ cap ∧ cap ≤ maxLen ∧ ∀ i k, outs[i]? = some k → w.cell? ⟨g, i, none⟩ = some (.int .i64 k) := by
  rcases h.2 with ⟨h1, h2⟩ | ⟨g, cap, cur, hv, hb, hh, hn, hc, hs, ht⟩
  · exact Or.inl ⟨h1, List.eq_nil_of_length_eq_zero h2⟩
  · refine Or.inr ⟨g, cap, hv, hn, hc, fun i q hq => ?_⟩
    have hi : i < outs.length := by
      rcases Nat.lt_or_ge i outs.length with h | h
      · exact h
      · rw [List.getElem?_eq_none h] at hq; cases hq
    simp only [World.cell?, hh]
    have : (cur.toList.take (outs.length * 1))[i]? = some (.int .i64 q) := by rw [ht]; simp [ints, hq]
    rw [List.getElem?_take] at this
    simp [hi] at this
    simpa using this
theorem own_int_cell {w : World} {b g cap n : Nat} {outs : List Int} (h : w.ownsRow b 3 1 (.slice (some ⟨g, 0, none⟩) n cap) outs.length (ints outs)) {i : Nat} {k : Int} (hk : outs[i]? = some k) : w.cell? ⟨g, i, none⟩ = some (.int .i64 k) := by
  rcases own_ints h with ⟨hv, _⟩ | ⟨g', cap', hv, _, _, hc⟩
  · cases hv
  · cases hv; exact hc i k hk
theorem rev_take {l : List Int} {j m : Nat} {k : Int} (hm : l.length = j + 1 + m) (hk : l[m]? = some k) : l.reverse.take (j + 1) = l.reverse.take j ++ [k] := by
  rw [List.take_add_one, List.getElem?_reverse (by omega), show l.length - 1 - j = m by omega, hk]; rfl
structure Lp1 (w : World) (p : Nat) (c : Sp.Cp) (ks : List Tr) (top : Int) (gn : Nat) (v i : Value) (wr : World) : Prop where
  st : ∃ (j : Nat) (v0 : Value), v0 = v ∧ i = .int .i64 j ∧ gn + j = ks.length ∧ LsAt w wr p v (Sp.comps (ks.take j) c).1 top (Sp.comps (ks.take j) c).2
structure Lp2 (w : World) (p : Nat) (v : Value) (f : List Int → Sp.Cp × Int → Sp.Cp × Int) (outs : List Int) (x0 : Sp.Cp × Int) (top : Int) (gn : Nat) (o i : Value) (wr : World) : Prop where
  st : ∃ j : Nat, o = .int .i64 (f (outs.reverse.take j) x0).2 ∧ i = .int .i64 ((outs.length : Int) - 1 - j) ∧ gn + j = outs.length ∧ LsAt w wr p v (f (outs.reverse.take j) x0).1 top outs

set_option maxRecDepth 100000 in
set_option maxHeartbeats 1000000 in
theorem bare_32 (p q : Nat) (a : Lab) (ks : List Tr) (l : Value) (qs : List Nat) (w0 : World) (hq : NodeAt w0 q a l qs) (hqp : q < p) (hgl : ∀ g, l.ownBlock = some g → g < p) (hqk : qs.length = ks.length) (hql : qs.length ≤ 1000) (hk : a.kind = 5)
    (hih : ∀ (i q : Nat) (t : Tr), qs[i]? = some q → ks[i]? = some t → CompC 14 (Sp.comp t) p q w0) : CompC 23 (Sp.bare ⟨a, ks⟩) p q w0 := by
  intro w c top hbel hcp hlen ht0 ht1
  have HG : Hid (Sp.bare ⟨a, ks⟩ c = Sp.chain (Sp.comps ks c).2.reverse ((Sp.comps ks c).1.add (Sp.nd 0 0 0))) := by
    show _ = _
    unfold Sp.bare Sp.bareEnd Sp.open1
    simp [hk]
  rw [HG.out] at hlen ht1 ⊢
  clear HG
  have HLN : Hid ((Sp.comps ks c).1.ns.length + 1 + ks.length ≤ 1000000) := by rw [Sp.chain_len, Sp.Cp.add_len] at hlen; simp [Sp.comps_outs] at hlen; exact hlen
  have HTD : Hid ((Sp.comps ks c).1.told ≤ 1000000) := by rw [Sp.chain_told, Sp.Cp.add_told] at ht1; exact ht1
  have HT0 : Hid (0 ≤ c.told) := ht0
  obtain ⟨X0, hX⟩ : ∃ X, X = Sp.comps ks c := ⟨_, rfl⟩
  rw [← hX] at HLN HTD ⊢
  have HX : Hid (X0 = Sp.comps ks c) := hX
  have HXL : Hid (X0.2.length = ks.length) := by show _ = _; rw [HX.out]; exact Sp.comps_outs _ _
  clear hX
  have HK : Hid (NodeAt w q a l qs) := kid_facts hq hbel hqp hgl
  have HCP : Hid (CpAt w p c top) := hcp
  have HB0 : Hid (Bel p w0 w) := hbel
  have HIH : Hid (∀ (i q : Nat) (t : Tr), qs[i]? = some q → ks[i]? = some t → CompC 14 (Sp.comp t) p q w0) := hih
  have hp := hcp.lt
  have HQK : Hid (qs.length = ks.length) := hqk
  clear hcp hbel hih hq hlen ht1 ht0 hqk
  have q0 : w.cell? ⟨q, 0, none⟩ = some (.int .u8 32) := by have h := HK.out.pt.facts.1; rw [h]; simp [psOf, kindOf, hk]
  have pz := HK.out.pt.facts.fz
  have hq1 : w.cell? ⟨q, 1, none⟩ = some l := HK.out.pt.facts.2
  obtain ⟨it, hi1, hi2, hi3, hi4⟩ := infoInt
  have HI : Hid (Tryd.prog.info? 3 = some it ∧ it.zero = some (.int .i64 0) ∧ it.size = 1 ∧ it.bytes = 8) := ⟨hi1, hi2, hi3, hi4⟩
  clear hi1 hi2 hi3 hi4
  have HST : Hid (Lp1 w p c ks top ks.length (.slice none 0 0) (.int .i64 0) w) := ⟨⟨0, _, rfl, rfl, by omega, by simp [Sp.comps_nil]; exact LsAt.start HCP.out⟩⟩
  have HKq : Hid (∀ W : World, Bel p w W → W.cell? ⟨q, 1, none⟩ = some l) := fun W hW => by
    have := hW.block q hqp (by omega); unfold World.cell? at hq1 ⊢; simpa [this] using hq1
  rcases own_cells HK.out.own with ⟨hl, hqs⟩ | ⟨g, cap, hl, hc1, hc2, hcell⟩
  · subst hl
    subst hqs
    obtain rfl : ks = [] := List.eq_nil_of_length_eq_zero (by have := HQK.out; simpa using this.symm)
    obtain rfl : X0 = (c, []) := by rw [HX.out, Sp.comps_nil]
    have hbn := run_bigNode1
    have HLC : Hid (c.ns.length ≤ 1000000) := by have := HLN.out; show _ ≤ _; simp at this; omega
    clear HST HX HXL HLN HTD HIH HKq
    go_enter Tryd.func23, Tryd.ntmps23
    go_wp2_with fail
    refine wp_loop_rounds 1 ?_
    rw [rounds_succ]
    go_wp2_with fail
    refine (add_cp p c top _ w HCP.out HLC.out).mono ?_
    rintro e w2 ⟨rfl, hc2, hb2⟩
    go_wp2_with fail
    refine wp_loop_rounds 1 ?_
    rw [rounds_succ]
    go_wp2_with fail
    go_ret
    exact ⟨ret_int rfl, hc2, hb2⟩
  · have hgp : g < p := hgl g (by rw [hl]; rfl)
    have HKg : Hid (∀ (W : World) (i q : Nat), Bel p w W → qs[i]? = some q → W.cell? ⟨g, i, none⟩ = some (.pointer (some ⟨q, 0, none⟩))) := fun W i q hW hi => by
      have := hW.block g hgp (by omega); have h2 := hcell i q hi; unfold World.cell? ptr at h2; unfold World.cell?; simpa [this] using h2
    subst hl
    clear hcell hgl
    go_enter Tryd.func23, Tryd.ntmps23
    go_wp2_with fail
    go_loopg [13, 14] ks.length (fun gn v i wr => Lp1 w p c ks top gn v i wr)
    case atStart => exact HST.out
    case round =>
      clear HST q0 hq1
      obtain ⟨j, v, rfl, rfl, hj, hls⟩ := hrel
      have HJ : Hid (gk + j = ks.length) := hj
      have r1 := HKq.out wr hls.bel
      have hpart := Sp.comps_part ks j c
      rw [← HX.out] at hpart
      by_cases hlt : j < ks.length
      · obtain ⟨qj, hqj⟩ : ∃ q, qs[j]? = some q := ⟨_, List.getElem?_eq_getElem (by have := HQK.out; omega)⟩
        obtain ⟨tj, htj⟩ : ∃ t, ks[j]? = some t := ⟨_, List.getElem?_eq_getElem hlt⟩
        have hjq : j < qs.length := by have := HQK.out; omega
        have rg := HKg.out wr j qj hls.bel hqj
        have hstep := Sp.comps_step c htj
        have hpart1 := Sp.comps_part ks (j + 1) c
        rw [hstep, ← HX.out] at hpart1
        have HCALL : Hid (Calls Tryd.prog 14 #[.pointer (some ⟨p, 0, none⟩), .pointer (some ⟨qj, 0, none⟩)] wr (CompOut p (Sp.comp tj (Sp.comps (ks.take j) c).1) top wr)) :=
          HIH.out j qj tj hqj htj wr (Sp.comps (ks.take j) c).1 top (HB0.out.trans hls.bel) hls.cp (by have := hpart1.1; have := HLN.out; simp at *; omega) (by have := hpart.2.2; have := HT0.out; omega) (by have := hpart1.2.1; have := HTD.out; simp at *; omega)
        have HS : Hid (Sp.comps (ks.take (j + 1)) c = ((Sp.comp tj (Sp.comps (ks.take j) c).1).1, (Sp.comps (ks.take j) c).2 ++ [(Sp.comp tj (Sp.comps (ks.take j) c).1).2])) := hstep
        have HLS : Hid (LsAt w wr p v (Sp.comps (ks.take j) c).1 top (Sp.comps (ks.take j) c).2) := hls
        have HOL : Hid ((Sp.comps (ks.take j) c).2.length = j) := by show _ = _; rw [Sp.comps_outs]; simp; omega
        clear hstep hpart1 hpart hls hqj htj hj
        generalize Sp.comps (ks.take j) c = X at *
        generalize Sp.comp tj X.1 = Y at *
        obtain ⟨fuel, rfl⟩ : ∃ n, gk = n + 1 := ⟨gk - 1, by have := HJ.out; omega⟩
        go_wp2_with fail
        refine HCALL.out.mono ?_
        clear HCALL
        rintro e w2 ⟨rfl, hc2', hb2⟩
        have HL2 : Hid (LsAt w w2 p v Y.1 top X.2) := HLS.out.node hp hb2 hc2'
        clear HLS hc2' hb2 r1 rg
        have hol : X.2.length ≤ 1000 := by have := HOL.out; omega
        go_wp2_with (first | (at_builtin; refine wpList_append_own_at _ rfl _ _ 45 rfl w.heap.size 3 it (.int .i64 0) 1 8 Tryd.underlying45 HI.out.1 HI.out.2.1 HI.out.2.2.1 HI.out.2.2.2 rfl (by decide) _ _ _ rfl (HL2.out.own.alloc _) ⟨w2.heap.size, 0, none⟩ 1 1 [.int .i64 Y.2] rfl rfl ?c1 ?c2 ?c3 ?c4 ?c5 ?_) | fail)
        case c1 => exact cell_one_new _ _ _
        case c2 => intro u hu; simp at hu; subst hu; rfl
        case c3 => unfold maxLen; omega
        case c4 => omega
        case c5 => have := HL2.out.bel.size; simp; omega
        intro v' w5 hown' hgrow hnil hloc
        have HL5 : Hid (LsAt w w5 p v' Y.1 top (X.2 ++ [Y.2])) := HL2.out.app hp (fun k hk => Below.heap_alloc _ _ _ hk) (by simp) rfl rfl rfl hgrow hown' (by simpa using hloc)
        clear hown' hgrow hnil hloc
        go_wp2_with fail
        go_roundg fuel
        case measure => omega
        case rel => exact ⟨⟨j + 1, _, rfl, by go_num, by have := HJ.out; omega, by rw [HS.out]; exact HL5.out⟩⟩
      · have hjk : ks.length ≤ j := by omega
        have hjq : ¬ j < qs.length := by have := HQK.out; omega
        have hj2 : j ≤ 1000 := by have := HQK.out; have := HJ.out; omega
        have HLS : Hid (LsAt w wr p v X0.1 top X0.2) := by rw [List.take_of_length_le (by omega), ← HX.out] at hls; exact hls
        clear hls hpart
        have hbn := run_bigNode1
        go_wp2_with fail
        refine (add_cp p X0.1 top _ wr HLS.out.cp (by have := HLN.out; omega)).mono ?_
        rintro e w2 ⟨rfl, hc2', hb2⟩
        have HL2 : Hid (LsAt w w2 p v (X0.1.add (Sp.nd 0 0 0)).1 top X0.2) := HLS.out.node hp hb2 hc2'
        clear HLS hc2' hb2 r1 hbn
        rcases own_ints HL2.out.own with ⟨hv, ho⟩ | ⟨g5, cap5, hv, h5, h6, _⟩
        · subst hv
          go_wp2_with fail
          refine wp_loop_rounds 1 ?_
          rw [rounds_succ]
          go_wp2_with fail
          go_ret
          exact ⟨ret_int (by rw [ho]; rfl), by rw [ho]; exact HL2.out.cp, HL2.out.bel⟩
        · have hx5 : X0.2.length ≤ 1000 := by have := HXL.out; have := HQK.out; omega
          subst hv
          go_wp2_with fail
          go_loopg [16, 17] X0.2.length (fun gn o i wr => Lp2 w p (.slice (some ⟨g5, 0, none⟩) X0.2.length cap5) Sp.chain X0.2 (X0.1.add (Sp.nd 0 0 0)) top gn o i wr)
          case atStart => exact ⟨⟨0, rfl, by go_num, by omega, HL2.out⟩⟩
          case round =>
            clear HL2
            obtain ⟨j, rfl, rfl, hj, hls⟩ := hrel
            have HJ : Hid (gk + j = X0.2.length) := hj
            by_cases hlt : j < X0.2.length
            · obtain ⟨m, hm⟩ : ∃ m, X0.2.length = j + 1 + m := ⟨X0.2.length - (j + 1), by omega⟩
              obtain ⟨k, hk⟩ : ∃ k, X0.2[m]? = some k := ⟨_, List.getElem?_eq_getElem (by omega)⟩
              have hrev := rev_take hm hk
              have HN : Hid (Sp.chain (X0.2.reverse.take (j + 1)) (X0.1.add (Sp.nd 0 0 0)) = (Sp.chain (X0.2.reverse.take j) (X0.1.add (Sp.nd 0 0 0))).1.add (Sp.nd 2 k (Sp.chain (X0.2.reverse.take j) (X0.1.add (Sp.nd 0 0 0))).2)) := by show _ = _; rw [hrev, Sp.chain_snoc]
              have hi : ((X0.2.length : Int) - 1 - j) = m := by omega
              have hml : m < X0.2.length := by omega
              have hm1 : (m : Int) ≤ 1000 := by have := HXL.out; have := HQK.out; omega
              have rk := own_int_cell hls.own hk
              have HLS : Hid (LsAt w wr p (.slice (some ⟨g5, 0, none⟩) X0.2.length cap5) (Sp.chain (X0.2.reverse.take j) (X0.1.add (Sp.nd 0 0 0))).1 top X0.2) := hls
              have HLC : Hid ((Sp.chain (X0.2.reverse.take j) (X0.1.add (Sp.nd 0 0 0))).1.ns.length ≤ 1000000) := by show _ ≤ _; rw [Sp.chain_len, Sp.Cp.add_len]; have := HLN.out; have := HXL.out; simp; omega
              have HM : Hid (X0.2.length = j + 1 + m) := hm
              rw [hi]
              clear hi hm hk hrev hls hj
              generalize Sp.chain (X0.2.reverse.take j) (X0.1.add (Sp.nd 0 0 0)) = z at *
              obtain ⟨fuel, rfl⟩ : ∃ n, gk = n + 1 := ⟨gk - 1, by have := HJ.out; omega⟩
              have hbn := run_bigNode3
              go_wp2_with fail
              refine (add_cp p z.1 top _ wr HLS.out.cp HLC.out).mono ?_
              rintro e w3 ⟨rfl, hc3, hb3⟩
              have HL3 : Hid (LsAt w w3 p (.slice (some ⟨g5, 0, none⟩) X0.2.length cap5) (z.1.add (Sp.nd 2 k z.2)).1 top X0.2) := HLS.out.node hp hb3 hc3
              clear HLS hc3 hb3 rk hbn
              go_wp2_with fail
              go_roundg fuel
              case measure => omega
              case rel => exact ⟨⟨j + 1, by rw [HN.out], by have := HM.out; exact int_eq (by omega), by have := HJ.out; omega, by rw [HN.out]; exact HL3.out⟩⟩
            · have hjn : j = X0.2.length := by omega
              have HE : Hid (Sp.chain X0.2.reverse (X0.1.add (Sp.nd 0 0 0)) = Sp.chain (X0.2.reverse.take j) (X0.1.add (Sp.nd 0 0 0))) := by show _ = _; rw [List.take_of_length_le (by simp; omega)]
              have hneg : ((X0.2.length : Int) - 1 - j) = -1 := by omega
              rw [hneg]
              clear hneg
              go_wp2_with fail
              go_ret
              exact ⟨ret_int (by rw [HE.out]), by rw [HE.out]; exact hls.cp, hls.bel⟩
end Go.Proofs.YtcpfpnjkfahjcaaDoor
