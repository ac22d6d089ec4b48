import Derived.Test.YtcpfpnjkfahjcaaDoorH39
set_option linter.unusedSimpArgs false
set_option linter.unusedVariables false
namespace Go.Proofs.YtcpfpnjkfahjcaaDoor
open Go.RowKit
attribute [local go_sem ↓] build_bigNode loadAt_node storeAt_node

theorem Sp.pick_append : ∀ (l m : List Int) (x : Sp.Cp × Int), Sp.pick (l ++ m) x = Sp.pick m (Sp.pick l x)
  | [], _, _ => rfl
  | k :: r, m, x => by rw [List.cons_append, Sp.pick, Sp.pick_append r m, Sp.pick]

set_option maxRecDepth 100000 in
set_option maxHeartbeats 1000000 in
theorem bare_124 (p q : Nat) (a : Lab) (ks : List Tr) (l : Value) (qs : List Nat) (w0 : World) (hq : NodeAt w0 q a l qs) (hqp : q < p) (hgl : ∀ g, l.ownBlock = some g → g < p) (hqk : qs.length = ks.length) (hql : qs.length ≤ 1000) (hk : a.kind = 4)
    (hih : ∀ (i q : Nat) (t : Tr), qs[i]? = some q → ks[i]? = some t → CompC 14 (Sp.comp t) p q w0) : CompC 23 (Sp.bare ⟨a, ks⟩) p q w0 := by
  intro w c top hbel hcp hlen ht0 ht1
  have HG : Hid (Sp.bare ⟨a, ks⟩ c = Sp.pick (Sp.comps ks c).2.reverse ((Sp.comps ks c).1, -1)) := by
    show _ = _
    unfold Sp.bare Sp.bareEnd Sp.open1
    simp [hk]
  rw [HG.out] at hlen ht1 ⊢
  clear HG
  have HLP : Hid ((Sp.pick (Sp.comps ks c).2.reverse ((Sp.comps ks c).1, -1)).1.ns.length ≤ 1000000) := hlen
  have HLN : Hid ((Sp.comps ks c).1.ns.length ≤ 1000000) := by have h := Sp.pick_len (Sp.comps ks c).2.reverse ((Sp.comps ks c).1, -1); show _ ≤ _; simp at h; omega
  have HTD : Hid ((Sp.comps ks c).1.told ≤ 1000000) := by rw [Sp.pick_told] at ht1; exact ht1
  have HT0 : Hid (0 ≤ c.told) := ht0
  obtain ⟨X0, hX⟩ : ∃ X, X = Sp.comps ks c := ⟨_, rfl⟩
  rw [← hX] at HLN HLP HTD ⊢
  have HX : Hid (X0 = Sp.comps ks c) := hX
  have HXL : Hid (X0.2.length = ks.length) := by show _ = _; rw [HX.out]; exact Sp.comps_outs _ _
  clear hX
  have HK : Hid (NodeAt w q a l qs) := kid_facts hq hbel hqp hgl
  have HCP : Hid (CpAt w p c top) := hcp
  have HB0 : Hid (Bel p w0 w) := hbel
  have HIH : Hid (∀ (i q : Nat) (t : Tr), qs[i]? = some q → ks[i]? = some t → CompC 14 (Sp.comp t) p q w0) := hih
  have hp := hcp.lt
  have HQK : Hid (qs.length = ks.length) := hqk
  clear hcp hbel hih hq hlen ht1 ht0 hqk
  have q0 : w.cell? ⟨q, 0, none⟩ = some (.int .u8 124) := by have h := HK.out.pt.facts.1; rw [h]; simp [psOf, kindOf, hk]
  have pz := HK.out.pt.facts.fz
  have hq1 : w.cell? ⟨q, 1, none⟩ = some l := HK.out.pt.facts.2
  obtain ⟨it, hi1, hi2, hi3, hi4⟩ := infoInt
  have HI : Hid (Tryd.prog.info? 3 = some it ∧ it.zero = some (.int .i64 0) ∧ it.size = 1 ∧ it.bytes = 8) := ⟨hi1, hi2, hi3, hi4⟩
  clear hi1 hi2 hi3 hi4
  have HST : Hid (Lp1 w p c ks top ks.length (.slice none 0 0) (.int .i64 0) w) := ⟨⟨0, _, rfl, rfl, by omega, by simp [Sp.comps_nil]; exact LsAt.start HCP.out⟩⟩
  have HKq : Hid (∀ W : World, Bel p w W → W.cell? ⟨q, 1, none⟩ = some l) := fun W hW => by
    have := hW.block q hqp (by omega); unfold World.cell? at hq1 ⊢; simpa [this] using hq1
  rcases own_cells HK.out.own with ⟨hl, hqs⟩ | ⟨g, cap, hl, hc1, hc2, hcell⟩
  · subst hl
    subst hqs
    obtain rfl : ks = [] := List.eq_nil_of_length_eq_zero (by have := HQK.out; simpa using this.symm)
    obtain rfl : X0 = (c, []) := by rw [HX.out, Sp.comps_nil]
    clear HST HX HXL HLN HLP HTD HIH HKq
    go_enter Tryd.func23, Tryd.ntmps23
    go_wp2_with fail
    refine wp_loop_rounds 1 ?_
    rw [rounds_succ]
    go_wp2_with fail
    refine wp_loop_rounds 1 ?_
    rw [rounds_succ]
    go_wp2_with fail
    go_ret
    exact ⟨ret_int rfl, HCP.out, Bel.refl _ _⟩
  · have hgp : g < p := hgl g (by rw [hl]; rfl)
    have HKg : Hid (∀ (W : World) (i q : Nat), Bel p w W → qs[i]? = some q → W.cell? ⟨g, i, none⟩ = some (.pointer (some ⟨q, 0, none⟩))) := fun W i q hW hi => by
      have := hW.block g hgp (by omega); have h2 := hcell i q hi; unfold World.cell? ptr at h2; unfold World.cell?; simpa [this] using h2
    subst hl
    clear hcell hgl
    go_enter Tryd.func23, Tryd.ntmps23
    go_wp2_with fail
    go_loopg [9, 10] ks.length (fun gn v i wr => Lp1 w p c ks top gn v i wr)
    case atStart => exact HST.out
    case round =>
      clear HST q0 hq1
      obtain ⟨j, v, rfl, rfl, hj, hls⟩ := hrel
      have HJ : Hid (gk + j = ks.length) := hj
      have r1 := HKq.out wr hls.bel
      have hpart := Sp.comps_part ks j c
      rw [← HX.out] at hpart
      by_cases hlt : j < ks.length
      · obtain ⟨qj, hqj⟩ : ∃ q, qs[j]? = some q := ⟨_, List.getElem?_eq_getElem (by have := HQK.out; omega)⟩
        obtain ⟨tj, htj⟩ : ∃ t, ks[j]? = some t := ⟨_, List.getElem?_eq_getElem hlt⟩
        have hjq : j < qs.length := by have := HQK.out; omega
        have rg := HKg.out wr j qj hls.bel hqj
        have hstep := Sp.comps_step c htj
        have hpart1 := Sp.comps_part ks (j + 1) c
        rw [hstep, ← HX.out] at hpart1
        have HCALL : Hid (Calls Tryd.prog 14 #[.pointer (some ⟨p, 0, none⟩), .pointer (some ⟨qj, 0, none⟩)] wr (CompOut p (Sp.comp tj (Sp.comps (ks.take j) c).1) top wr)) :=
          HIH.out j qj tj hqj htj wr (Sp.comps (ks.take j) c).1 top (HB0.out.trans hls.bel) hls.cp (by have := hpart1.1; have := HLN.out; simp at *; omega) (by have := hpart.2.2; have := HT0.out; omega) (by have := hpart1.2.1; have := HTD.out; simp at *; omega)
        have HS : Hid (Sp.comps (ks.take (j + 1)) c = ((Sp.comp tj (Sp.comps (ks.take j) c).1).1, (Sp.comps (ks.take j) c).2 ++ [(Sp.comp tj (Sp.comps (ks.take j) c).1).2])) := hstep
        have HLS : Hid (LsAt w wr p v (Sp.comps (ks.take j) c).1 top (Sp.comps (ks.take j) c).2) := hls
        have HOL : Hid ((Sp.comps (ks.take j) c).2.length = j) := by show _ = _; rw [Sp.comps_outs]; simp; omega
        clear hstep hpart1 hpart hls hqj htj hj
        generalize Sp.comps (ks.take j) c = X at *
        generalize Sp.comp tj X.1 = Y at *
        obtain ⟨fuel, rfl⟩ : ∃ n, gk = n + 1 := ⟨gk - 1, by have := HJ.out; omega⟩
        go_wp2_with fail
        refine HCALL.out.mono ?_
        clear HCALL
        rintro e w2 ⟨rfl, hc2', hb2⟩
        have HL2 : Hid (LsAt w w2 p v Y.1 top X.2) := HLS.out.node hp hb2 hc2'
        clear HLS hc2' hb2 r1 rg
        have hol : X.2.length ≤ 1000 := by have := HOL.out; omega
        go_wp2_with (first | (at_builtin; refine wpList_append_own_at _ rfl _ _ 45 rfl w.heap.size 3 it (.int .i64 0) 1 8 Tryd.underlying45 HI.out.1 HI.out.2.1 HI.out.2.2.1 HI.out.2.2.2 rfl (by decide) _ _ _ rfl (HL2.out.own.alloc _) ⟨w2.heap.size, 0, none⟩ 1 1 [.int .i64 Y.2] rfl rfl ?c1 ?c2 ?c3 ?c4 ?c5 ?_) | fail)
        case c1 => exact cell_one_new _ _ _
        case c2 => intro u hu; simp at hu; subst hu; rfl
        case c3 => unfold maxLen; omega
        case c4 => omega
        case c5 => have := HL2.out.bel.size; simp; omega
        intro v' w5 hown' hgrow hnil hloc
        have HL5 : Hid (LsAt w w5 p v' Y.1 top (X.2 ++ [Y.2])) := HL2.out.app hp (fun k hk => Below.heap_alloc _ _ _ hk) (by simp) rfl rfl rfl hgrow hown' (by simpa using hloc)
        clear hown' hgrow hnil hloc
        go_wp2_with fail
        go_roundg fuel
        case measure => omega
        case rel => exact ⟨⟨j + 1, _, rfl, by go_num, by have := HJ.out; omega, by rw [HS.out]; exact HL5.out⟩⟩
      · have hjk : ks.length ≤ j := by omega
        have hjq : ¬ j < qs.length := by have := HQK.out; omega
        have hj2 : j ≤ 1000 := by have := HQK.out; have := HJ.out; omega
        have HLS : Hid (LsAt w wr p v X0.1 top X0.2) := by rw [List.take_of_length_le (by omega), ← HX.out] at hls; exact hls
        clear hls hpart
        have HL2 : Hid (LsAt w wr p v (X0.1, (-1 : Int)).1 top X0.2) := HLS.out
        clear HLS
        rcases own_ints HL2.out.own with ⟨hv, ho⟩ | ⟨g5, cap5, hv, h5, h6, _⟩
        · subst hv
          go_wp2_with fail
          refine wp_loop_rounds 1 ?_
          rw [rounds_succ]
          go_wp2_with fail
          go_ret
          exact ⟨ret_int (by rw [ho]; rfl), by rw [ho]; exact HL2.out.cp, HL2.out.bel⟩
        · have hx5 : X0.2.length ≤ 1000 := by have := HXL.out; have := HQK.out; omega
          subst hv
          go_wp2_with fail
          go_loopg [8, 12] X0.2.length (fun gn o i wr => Lp2 w p (.slice (some ⟨g5, 0, none⟩) X0.2.length cap5) Sp.pick X0.2 (X0.1, -1) top gn o i wr)
          case atStart => exact ⟨⟨0, rfl, by go_num, by omega, HL2.out⟩⟩
          case round =>
            clear HL2
            obtain ⟨j, rfl, rfl, hj, hls⟩ := hrel
            have HJ : Hid (gk + j = X0.2.length) := hj
            by_cases hlt : j < X0.2.length
            · obtain ⟨m, hm⟩ : ∃ m, X0.2.length = j + 1 + m := ⟨X0.2.length - (j + 1), by omega⟩
              obtain ⟨k, hk⟩ : ∃ k, X0.2[m]? = some k := ⟨_, List.getElem?_eq_getElem (by omega)⟩
              have hrev := rev_take hm hk
              have HN : Hid (Sp.pick (X0.2.reverse.take (j + 1)) (X0.1, -1) = (if (Sp.pick (X0.2.reverse.take j) (X0.1, -1)).2 < 0 then ((Sp.pick (X0.2.reverse.take j) (X0.1, -1)).1, k) else (Sp.pick (X0.2.reverse.take j) (X0.1, -1)).1.add (Sp.nd 3 k (Sp.pick (X0.2.reverse.take j) (X0.1, -1)).2))) := by show _ = _; rw [hrev, Sp.pick_snoc]
              have hi : ((X0.2.length : Int) - 1 - j) = m := by omega
              have hml : m < X0.2.length := by omega
              have hm1 : (m : Int) ≤ 1000 := by have := HXL.out; have := HQK.out; omega
              have rk := own_int_cell hls.own hk
              have HLS : Hid (LsAt w wr p (.slice (some ⟨g5, 0, none⟩) X0.2.length cap5) (Sp.pick (X0.2.reverse.take j) (X0.1, -1)).1 top X0.2) := hls
              have HLC : Hid ((Sp.pick (X0.2.reverse.take j) (X0.1, -1)).1.ns.length ≤ 1000000) := by show _ ≤ _; have h7 := HLP.out; rw [← List.take_append_drop j X0.2.reverse, Sp.pick_append] at h7; have := Sp.pick_len (X0.2.reverse.drop j) (Sp.pick (X0.2.reverse.take j) (X0.1, -1)); omega
              have HM : Hid (X0.2.length = j + 1 + m) := hm
              rw [hi]
              clear hi hm hk hrev hls hj
              generalize Sp.pick (X0.2.reverse.take j) (X0.1, -1) = z at *
              obtain ⟨fuel, rfl⟩ : ∃ n, gk = n + 1 := ⟨gk - 1, by have := HJ.out; omega⟩
              by_cases hz : z.2 < 0
              · rw [if_pos hz] at HN
                go_wp2_with fail
                go_roundg fuel
                case measure => omega
                case rel => exact ⟨⟨j + 1, by rw [HN.out], by have := HM.out; exact int_eq (by omega), by have := HJ.out; omega, by rw [HN.out]; exact HLS.out⟩⟩
              · rw [if_neg hz] at HN
                have hbn := run_bigNode3
                go_wp2_with fail
                refine (add_cp p z.1 top _ wr HLS.out.cp HLC.out).mono ?_
                rintro e w3 ⟨rfl, hc3, hb3⟩
                have HL3 : Hid (LsAt w w3 p (.slice (some ⟨g5, 0, none⟩) X0.2.length cap5) (z.1.add (Sp.nd 3 k z.2)).1 top X0.2) := HLS.out.node hp hb3 hc3
                clear HLS hc3 hb3 rk hbn
                go_wp2_with fail
                go_roundg fuel
                case measure => omega
                case rel => exact ⟨⟨j + 1, by rw [HN.out], by have := HM.out; exact int_eq (by omega), by have := HJ.out; omega, by rw [HN.out]; exact HL3.out⟩⟩
            · have hjn : j = X0.2.length := by omega
              have HE : Hid (Sp.pick X0.2.reverse (X0.1, -1) = Sp.pick (X0.2.reverse.take j) (X0.1, -1)) := by show _ = _; rw [List.take_of_length_le (by simp; omega)]
              have hneg : ((X0.2.length : Int) - 1 - j) = -1 := by omega
              rw [hneg]
              clear hneg
              go_wp2_with fail
              go_ret
              exact ⟨ret_int (by rw [HE.out]), by rw [HE.out]; exact hls.cp, hls.bel⟩
end Go.Proofs.YtcpfpnjkfahjcaaDoor

set_option linter.unusedSimpArgs false
set_option linter.unusedVariables false
namespace Go.Proofs.YtcpfpnjkfahjcaaDoor
open Go.RowKit

/-- A group has one part. -/
def Ones : List Tr → Prop
  | [] => True
  | ⟨a, ks⟩ :: r => (a.kind = 3 → ks.length = 1) ∧ Ones ks ∧ Ones r

theorem comp_core (p q : Nat) (a : Lab) (ks : List Tr) (l : Value) (qs : List Nat) (w0 : World) (hq : NodeAt w0 q a l qs) (hqp : q < p) (hgl : ∀ g, l.ownBlock = some g → g < p) (ha : Sp.LabOK a) (hqk : qs.length = ks.length) (hkl : ks.length ≤ 1000) (h1 : a.kind = 3 → ks.length = 1)
    (hih : ∀ (i q : Nat) (t : Tr), qs[i]? = some q → ks[i]? = some t → CompC 14 (Sp.comp t) p q w0) : CompC 14 (Sp.comp ⟨a, ks⟩) p q w0 := by
  refine node_core p q ⟨a, ks⟩ l w0 hq.pt hqp ha ?_
  rcases kind_cases ha.kind with ⟨hk, hk'⟩ | ⟨hk, hk'⟩ | ⟨hk, hk'⟩ | ⟨hk, hk'⟩
  · exact bare_98 p q ⟨a, ks⟩ l w0 hq.pt hqp hk hk'
  · have hl := h1 hk
    match ks, qs, hqk, hl, hq, hih with
    | [t1], [q1], _, _, hq, hih =>
      cases hT : a.told with
      | true => exact bare_40t p q q1 a t1 l w0 hq hqp hgl hk hT (hih 0 q1 t1 rfl rfl)
      | false => exact bare_40n p q q1 a t1 l w0 hq hqp hgl hk hT (hih 0 q1 t1 rfl rfl)
  · exact bare_124 p q a ks l qs w0 hq hqp hgl hqk (by omega) hk hih
  · exact bare_32 p q a ks l qs w0 hq hqp hgl hqk (by omega) hk hih

theorem comp_all (p : Nat) (w0 : World) : ∀ (ts : List Tr) (S : Nat → Prop) (ps : List Nat), PartsAt w0 S ps ts → (∀ k, S k → k < w0.heap.size → k < p) → Sp.TrsOK ts → Few ts → Ones ts → ∀ (i q : Nat) (t : Tr), ps[i]? = some q → ts[i]? = some t → CompC 14 (Sp.comp t) p q w0
  | [], _, _, _, _, _, _, _, i, _, _, _, h => by simp at h
  | ⟨a, ks⟩ :: r, S, [], h, _, _, _, _, _, _, _, _, _ => (PartsAt_no1 h).elim
  | ⟨a, ks⟩ :: r, S, p' :: ps, h, hS, ho, hf, h1, 0, q, t, e1, e2 => by
    simp at e1 e2; subst e1; subst e2
    rw [PartsAt_cons] at h
    rw [Sp.TrsOK] at ho
    rw [Few] at hf
    rw [Ones] at h1
    obtain ⟨hs, ⟨l, qs, h3, h4, h4', h5⟩, _⟩ := h
    have hl := PartsAt.length _ _ h5
    exact comp_core p p' a ks l qs w0 ⟨h3, h4⟩ (hS p' hs h3.lt) (fun g hg => hS g (h4' g hg) (ownBlock_lt h4 hg).1) ho.1 hl hf.1 h1.1
      (fun i q t hq ht => comp_all p w0 ks _ qs h5 (fun k hk hl => hS k hk.1 hl) ho.2.1 hf.2.1 h1.2.1 i q t hq ht)
  | ⟨a, ks⟩ :: r, S, p' :: ps, h, hS, ho, hf, h1, i + 1, q, t, e1, e2 => by
    rw [PartsAt_cons] at h
    rw [Sp.TrsOK] at ho
    rw [Few] at hf
    rw [Ones] at h1
    exact comp_all p w0 r S ps h.2.2 hS ho.2.2 hf.2.2 h1.2.2 i q t (by simpa using e1) (by simpa using e2)
end Go.Proofs.YtcpfpnjkfahjcaaDoor

set_option linter.unusedSimpArgs false
set_option linter.unusedVariables false
namespace Go.Proofs.YtcpfpnjkfahjcaaDoor
open Go.RowKit

theorem Sp.wrap_most {a : Lab} (ha : Sp.LabOK a) (x : Sp.Cp × Int) : (Sp.wrap a x).1.ns.length ≤ x.1.ns.length + 42 := by
  have h1 := ha.min1
  have h2 := ha.max1
  have h3 := ha.min0
  unfold Sp.wrap; split
  · omega
  · rw [Sp.reps_len]; unfold Sp.wrap0; split
    · rw [Sp.Cp.add_len]; omega
    · rw [Sp.reps_len, Sp.Cp.add_len]; omega
theorem Sp.pick_most : ∀ (l : List Int) (x : Sp.Cp × Int), (Sp.pick l x).1.ns.length ≤ x.1.ns.length + l.length
  | [], _ => Nat.le_refl _
  | k :: r, x => by
    rw [Sp.pick]
    have := Sp.pick_most r (if x.2 < 0 then (x.1, k) else x.1.add (Sp.nd 3 k x.2))
    split at this
    · rename_i h; rw [if_pos h]; simp at this ⊢; omega
    · rename_i h; rw [if_neg h]; rw [Sp.Cp.add_len] at this; simp; omega
theorem Sp.bareEnd_most (a : Lab) (c : Sp.Cp) (x : Sp.Cp × List Int) (h : c.ns.length ≤ x.1.ns.length) : (Sp.bareEnd a c x).1.ns.length ≤ x.1.ns.length + 1 + x.2.length := by
  unfold Sp.bareEnd; repeat' split
  · rw [Sp.Cp.add_len]; omega
  · rw [Sp.Cp.add_len]; omega
  · have := Sp.pick_most x.2.reverse (x.1, -1); simp at this; omega
  · rw [Sp.chain_len, Sp.Cp.add_len]; simp
theorem Sp.nodes_ge : ∀ (l : List Tr), l.length ≤ Sp.nodes l
  | [] => by simp [Sp.nodes]
  | ⟨a, ks⟩ :: r => by rw [Sp.nodes]; have := Sp.nodes_ge r; simp; omega
theorem Sp.comps_most : ∀ (l : List Tr) (c : Sp.Cp), Sp.TrsOK l → (Sp.comps l c).1.ns.length + l.length ≤ c.ns.length + 44 * Sp.nodes l
  | [], c, _ => by rw [Sp.comps_nil]; simp
  | ⟨a, ks⟩ :: r, c, ho => by
    rw [Sp.TrsOK] at ho
    rw [Sp.comps_cons, Sp.nodes]
    have h1 := Sp.comps_most ks (Sp.open1 a c) ho.2.1
    have h0 := Sp.comps_len ks (Sp.open1 a c)
    rw [Sp.open1_len] at h1 h0
    have h3 := Sp.bareEnd_most a c (Sp.comps ks (Sp.open1 a c)) h0
    have h4 : (Sp.comp ⟨a, ks⟩ c).1.ns.length ≤ (Sp.bareEnd a c (Sp.comps ks (Sp.open1 a c))).1.ns.length + 42 := Sp.wrap_most ho.1 _
    have h5 := Sp.comps_most r (Sp.comp ⟨a, ks⟩ c).1 ho.2.2
    rw [Sp.comps_outs] at h3
    show (Sp.comps r _).1.ns.length + (r.length + 1) ≤ _
    omega
theorem Sp.open1_most (a : Lab) (c : Sp.Cp) : (Sp.open1 a c).told ≤ c.told + 1 := by
  unfold Sp.open1; split
  · exact Int.le_refl _
  · omega
theorem Sp.bareEnd_told' (a : Lab) (c : Sp.Cp) (x : Sp.Cp × List Int) (h : c.told ≤ x.1.told) : (Sp.bareEnd a c x).1.told ≤ x.1.told := by
  unfold Sp.bareEnd; repeat' split
  · rw [Sp.Cp.add_told]; omega
  · rw [Sp.Cp.add_told]; omega
  · rw [Sp.pick_told]; exact Int.le_refl _
  · rw [Sp.chain_told, Sp.Cp.add_told]; exact Int.le_refl _
theorem Sp.comps_told_most : ∀ (l : List Tr) (c : Sp.Cp), (Sp.comps l c).1.told ≤ c.told + (Sp.nodes l : Int)
  | [], c => by rw [Sp.comps_nil]; simp [Sp.nodes]
  | ⟨a, ks⟩ :: r, c => by
    rw [Sp.comps_cons, Sp.nodes]
    have h0 := Sp.comps_told ks (Sp.open1 a c)
    have h1 := Sp.comps_told_most ks (Sp.open1 a c)
    have h2 := Sp.open1_told a c
    have h2' := Sp.open1_most a c
    have h3 := Sp.bareEnd_told' a c (Sp.comps ks (Sp.open1 a c)) (by omega)
    have h4 : (Sp.comp ⟨a, ks⟩ c).1.told = (Sp.bareEnd a c (Sp.comps ks (Sp.open1 a c))).1.told := by unfold Sp.comp Sp.bare; rw [Sp.wrap_told]
    have h5 := Sp.comps_told_most r (Sp.comp ⟨a, ks⟩ c).1
    show (Sp.comps r _).1.told ≤ _
    omega
/-- The bounds of a whole pattern. -/
theorem Sp.comp_most {t : Tr} (ho : Sp.TrsOK [t]) (hn : Sp.nodes [t] ≤ 1000) : (Sp.comp t ⟨[], 0⟩).1.ns.length ≤ 44000 ∧ (Sp.comp t ⟨[], 0⟩).1.told ≤ 1000 := by
  have h1 := Sp.comps_most [t] ⟨[], 0⟩ ho
  have h2 := Sp.comps_told_most [t] ⟨[], 0⟩
  rw [Sp.comps_cons, Sp.comps_nil] at h1 h2
  simp at h1 h2
  omega
end Go.Proofs.YtcpfpnjkfahjcaaDoor

set_option linter.unusedSimpArgs false
set_option linter.unusedVariables false
namespace Go.Proofs.YtcpfpnjkfahjcaaDoor
open Go.RowKit

theorem Ones_nil : Ones [] := by unfold Ones; trivial
theorem Ones_cons (t : Tr) (r : List Tr) : Ones (t :: r) = ((t.lab.kind = 3 → t.kids.length = 1) ∧ Ones t.kids ∧ Ones r) := by obtain ⟨a, ks⟩ := t; rw [Ones]
theorem Ones_append : ∀ (l m : List Tr), Ones l → Ones m → Ones (l ++ m)
  | [], _, _, h => h
  | t :: r, m, h, k => by
    rw [Ones_cons] at h
    show Ones (t :: (r ++ m))
    rw [Ones_cons]; exact ⟨h.1, h.2.1, Ones_append r m h.2.2 k⟩
theorem Ones_one {a : Lab} {ks : List Tr} (h1 : a.kind = 3 → ks.length = 1) (h2 : Ones ks) : Ones [⟨a, ks⟩] := by rw [Ones_cons]; exact ⟨h1, h2, Ones_nil⟩
namespace Sp
def OnesF (f : At → Res (Tr × At)) : Prop := ∀ x t y, f x = .ok (t, y) → Ones [t]
theorem list_ones {s : ByteArray} {i j : Nat} {t : Tr} (h : list s i = .ok (t, j)) : Ones [t] := by
  unfold list at h
  simp only [] at h
  cases h1 : items s (s.size + 1) (fun _ => false) (if isAt s i 94 = true then i + 1 else i) with
  | error f => simp [h1] at h
  | ok v =>
    obtain ⟨set, k⟩ := v
    simp only [h1] at h
    cases h
    exact Ones_one (by simp) Ones_nil
theorem atom_ones {s : ByteArray} {d : Nat} {sub : At → Res (Tr × At)} (hs : OnesF sub) {x : At} {t : Tr} {y : At} (h : atom sub s d x = .ok (t, y)) : Ones [t] := by
  unfold atom at h
  by_cases c1 : isAt s x.i 40 = true
  · rw [if_pos c1] at h
    unfold group at h
    cases hh : head s d x with
    | error f => rw [hh] at h; cases h
    | ok v =>
      obtain ⟨k, z⟩ := v
      rw [hh] at h
      cases hb : sub z with
      | error f => simp [hb] at h
      | ok v =>
        obtain ⟨t', u⟩ := v
        have b := hs z t' u hb
        cases hn : need 41 s u.i with
        | error f => simp [hb, hn] at h
        | ok j =>
          simp [hb, hn] at h; obtain ⟨rfl, rfl⟩ := h
          exact Ones_one (by simp) b
  rw [if_neg c1] at h
  by_cases c2 : isAt s x.i 91 = true
  · rw [if_pos c2] at h
    cases h1 : list s (x.i + 1) with
    | error f => simp [h1] at h
    | ok v => obtain ⟨t', j⟩ := v; simp [h1] at h; obtain ⟨rfl, rfl⟩ := h; exact list_ones h1
  rw [if_neg c2] at h
  by_cases c3 : isAt s x.i 46 = true
  · rw [if_pos c3] at h; cases h
    exact Ones_one (by simp) Ones_nil
  rw [if_neg c3] at h
  cases h1 : byteBut false s x.i with
  | error f => simp [h1] at h
  | ok v =>
    obtain ⟨b, j⟩ := v
    simp [h1] at h; obtain ⟨rfl, rfl⟩ := h
    exact Ones_one (by simp) Ones_nil
theorem part_ones {s : ByteArray} {d : Nat} {sub : At → Res (Tr × At)} (hs : OnesF sub) {x : At} {t : Tr} {y : At} (h : part sub s d x = .ok (t, y)) : Ones [t] := by
  unfold part at h
  cases h1 : atom sub s d x with
  | error f => simp [h1] at h
  | ok v =>
    obtain ⟨t', z⟩ := v
    have g := atom_ones hs h1
    rw [Ones_cons] at g
    cases h2 : count s z.i with
    | error f => simp [h1, h2] at h
    | ok v =>
      obtain ⟨m, n, j⟩ := v
      simp [h1, h2] at h; obtain ⟨rfl, rfl⟩ := h
      exact Ones_one g.1 g.2.1
theorem parts_ones {s : ByteArray} {d : Nat} {sub : At → Res (Tr × At)} (hs : OnesF sub) : ∀ {n : Nat} {l : List Tr} {x : At} {l' : List Tr} {y : At}, parts sub s d n l x = .ok (l', y) → Ones l → Ones l'
  | 0, _, _, _, _, h, _ => by cases h
  | n + 1, l, x, l', y, h, hl => by
    unfold parts at h
    split at h
    · cases h; exact hl
    · cases h1 : part sub s d x with
      | error f => simp [h1] at h
      | ok v =>
        obtain ⟨t', z⟩ := v
        simp only [h1] at h
        exact parts_ones hs h (Ones_append _ _ hl (part_ones hs h1))
theorem row_ones {s : ByteArray} {d : Nat} {sub : At → Res (Tr × At)} (hs : OnesF sub) : OnesF (row sub s d) := by
  intro x t y h
  unfold row at h
  cases h1 : parts sub s d (s.size + 1) [] x with
  | error f => simp [h1] at h
  | ok v =>
    obtain ⟨l, z⟩ := v
    simp [h1] at h; obtain ⟨rfl, rfl⟩ := h
    exact Ones_one (by simp) (parts_ones hs h1 Ones_nil)
theorem rows_ones {s : ByteArray} {d : Nat} {sub : At → Res (Tr × At)} (hs : OnesF sub) : ∀ {n : Nat} {l : List Tr} {x : At} {l' : List Tr} {y : At}, rows sub s d n l x = .ok (l', y) → Ones l → Ones l'
  | 0, _, _, _, _, h, _ => by cases h
  | n + 1, l, x, l', y, h, hl => by
    unfold rows at h
    cases h1 : row sub s d x with
    | error f => simp [h1] at h
    | ok v =>
      obtain ⟨t', z⟩ := v
      have m := row_ones hs x t' z h1
      simp only [h1] at h
      split at h
      · exact rows_ones hs h (Ones_append _ _ hl m)
      · cases h; exact Ones_append _ _ hl m
theorem choice_ones (s : ByteArray) : ∀ k, OnesF (choice s k)
  | 0 => by intro x t y h; cases h
  | k + 1 => by
    intro x t y h
    unfold choice at h
    cases h1 : rows (choice s k) s (8 - k) (s.size + 1) [] x with
    | error f => simp [h1] at h
    | ok v =>
      obtain ⟨l, z⟩ := v
      simp [h1] at h; obtain ⟨rfl, rfl⟩ := h
      exact Ones_one (by simp) (rows_ones (choice_ones s k) h1 Ones_nil)
theorem read_ones {s : ByteArray} {t : Tr} {n : Int} (h : read s = .ok (t, n)) : Ones [t] := by
  unfold read at h
  split at h
  · cases h
  · cases h1 : choice s 9 ⟨0, 0⟩ with
    | error f => simp [h1] at h
    | ok v =>
      obtain ⟨t', y⟩ := v
      simp only [h1] at h
      split at h
      · cases h
      · split at h
        · cases h
        · cases h; exact choice_ones s 9 _ _ _ h1
end Sp

def CompileOut (s : ByteArray) (w : World) (e : Ending) (w' : World) : Prop := Upd [] w w' ∧ match Sp.read s with
  | .ok (t, _) => ∃ p, e = .returned (.tuple #[.pointer (some ⟨p, 0, none⟩), .int .i64 0, .int .i64 0]) ∧ w.heap.size ≤ p ∧ CpAt w' p (Sp.comp t ⟨[], 0⟩).1 (Sp.comp t ⟨[], 0⟩).2
  | .error (e1, a1) => e = .returned (.tuple #[.pointer none, .int .i64 e1, .int .i64 a1])
end Go.Proofs.YtcpfpnjkfahjcaaDoor
