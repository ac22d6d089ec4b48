import Derived.Test.YtcpfpnjkfahjcaaDoorH36
set_option linter.unusedSimpArgs false
set_option linter.unusedVariables false
namespace Go.Proofs.YtcpfpnjkfahjcaaDoor
open Go.RowKit

/-- A node's cells. -/
def ndCells (n : Sp.Nd) : List Value := .int .i64 n.kind :: .int .i64 n.a :: .int .i64 n.b :: ((List.range 256).map (fun c => Value.bool (n.set c)) ++ [.int .i64 n.num])
def ndArr (n : Sp.Nd) : Array Value := (ndCells n).toArray
theorem ndArr_size (n : Sp.Nd) : (ndArr n).size = 260 := by simp [ndArr, ndCells]
theorem ndArr_one (n : Sp.Nd) : ∀ u ∈ (ndArr n).toList, u.oneCell' = true := by
  intro u hu
  simp only [ndArr, ndCells, List.mem_cons, List.mem_append, List.mem_map, List.not_mem_nil, or_false] at hu
  rcases hu with rfl | rfl | rfl | ⟨c, _, rfl⟩ | rfl <;> rfl

/-- A node by itself, kept closed. -/
def bigNode (ps : Array (Nat × Value)) : Sem Value := Instr.build 81 ps
theorem build_bigNode (ps : Array (Nat × Value)) : Instr.build 81 ps = bigNode ps := rfl
theorem run_bigNode1 (k : Int) (w : World) : (bigNode #[(0, .int .i64 k)]).run Tryd.prog w = .ok (.agg (ndArr (Sp.nd k 0 0))) w := by kernel_rfl
theorem run_bigNode2 (k a : Int) (w : World) : (bigNode #[(0, .int .i64 k), (1, .int .i64 a)]).run Tryd.prog w = .ok (.agg (ndArr (Sp.nd k a 0))) w := by kernel_rfl
theorem run_bigNode3 (k a b : Int) (w : World) : (bigNode #[(0, .int .i64 k), (1, .int .i64 a), (2, .int .i64 b)]).run Tryd.prog w = .ok (.agg (ndArr (Sp.nd k a b))) w := by kernel_rfl

/-- The block of a pattern's row. -/
def ownB (w : World) (p : Nat) : Option Nat := match w.heap[p]? with | some (.cells c _ _) => c[0]?.bind Value.ownBlock | _ => none
theorem PatAt.ownB {w : World} {p : Nat} {v : Value} {n : Nat} {xs : List Value} {top told : Int} (h : PatAt w p v n xs top told) : ownB w p = v.ownBlock := by
  unfold Go.Proofs.YtcpfpnjkfahjcaaDoor.ownB; rw [h.block]; rfl
theorem ownB_same {w w' : World} {p : Nat} (h : w'.heap[p]? = w.heap[p]?) : ownB w' p = ownB w p := by unfold ownB; rw [h]

/-- All that is not the pattern's is as it was. -/
structure Bel (p : Nat) (w w' : World) : Prop where
  os : w'.os = w.os
  tape : w'.tape = w.tape
  output : w'.output = w.output
  size : w.heap.size ≤ w'.heap.size
  block : ∀ k, k < p → k < w.heap.size → w'.heap[k]? = w.heap[k]?
  rest : ∀ k, k < w.heap.size → k ≠ p → ownB w p ≠ some k → w'.heap[k]? = w.heap[k]?
  own : ownB w' p = ownB w p ∨ ∃ g, ownB w' p = some g ∧ w.heap.size ≤ g
theorem Bel.refl (p : Nat) (w : World) : Bel p w w := ⟨rfl, rfl, rfl, Nat.le_refl _, fun _ _ _ => rfl, fun _ _ _ _ => rfl, Or.inl rfl⟩
theorem Bel.trans {p : Nat} {a b c : World} (h : Bel p a b) (k : Bel p b c) : Bel p a c :=
  ⟨k.os.trans h.os, k.tape.trans h.tape, k.output.trans h.output, Nat.le_trans h.size k.size, fun i hi hl => (k.block i hi (Nat.lt_of_lt_of_le hl h.size)).trans (h.block i hi hl),
   fun i hi hp ho => (k.rest i (Nat.lt_of_lt_of_le hi h.size) hp (fun e => by
     rcases h.own with q | ⟨g, q, hg⟩
     · exact ho (q ▸ e)
     · rw [q] at e; simp at e; omega)).trans (h.rest i hi hp ho),
   by
    have hs := h.size
    rcases k.own with q | ⟨g, q, hg⟩
    · rcases h.own with r | ⟨g, r, hg⟩
      · exact Or.inl (q.trans r)
      · exact Or.inr ⟨g, q.trans r, hg⟩
    · exact Or.inr ⟨g, q, by omega⟩⟩
theorem Bel.drewN {p : Nat} {a b : World} (h : Bel p a b) (n : Nat) : Bel p a (b.drewN n) := ⟨h.os, h.tape, h.output, h.size, h.block, h.rest, h.own⟩
theorem PtAt.bel {p q : Nat} {w w' : World} {a : PS} (h : PtAt w q a) (u : Bel p w w') (hq : q < p) : PtAt w' q a := h.same (u.block q hq h.lt)

/-- The pattern, as it grows. -/
def CpAt (w : World) (p : Nat) (c : Sp.Cp) (top : Int) : Prop := ∃ v, PatAt w p v c.ns.length (c.ns.flatMap ndCells) top c.told
def CompOut (p : Nat) (r : Sp.Cp × Int) (top : Int) (w : World) (e : Ending) (w' : World) : Prop := e = .returned (.int .i64 r.2) ∧ CpAt w' p r.1 top ∧ Bel p w w'
theorem add_cp (p : Nat) (c : Sp.Cp) (top : Int) (n : Sp.Nd) (w : World) (h : CpAt w p c top) (hn : c.ns.length ≤ 1000000) :
    Calls Tryd.prog 24 #[.pointer (some ⟨p, 0, none⟩), .agg (ndArr n)] w (CompOut p (c.add n) top w) := by
  obtain ⟨v, hv⟩ := h
  refine (add_any p v _ _ top c.told (ndArr n) (ndArr_size n) (ndArr_one n) hn w hv).mono ?_
  rintro e w' ⟨rfl, v', hp, hu, hl⟩
  have hlt : ∀ k, v.ownBlock = some k → p < k := fun k hk => by have := (ownBlock_lt hv.own hk).2; omega
  refine ⟨rfl, ⟨v', ?_⟩, ⟨hu.os, hu.tape, hu.output, hu.size, fun k hk hs => hu.block k hs (fun e => ?_), fun k hs hk ho => hu.block k hs (fun e => ?_), ?_⟩⟩
  · have e1 : (c.add n).1.ns.length = c.ns.length + 1 := by simp [Sp.Cp.add]
    have e2 : (c.add n).1.ns.flatMap ndCells = c.ns.flatMap ndCells ++ (ndArr n).toList := by simp [Sp.Cp.add, ndArr]
    rw [e1, e2]; exact hp
  · simp at e
    rcases e with e | e
    · omega
    · have := hlt k (by simpa using e); omega
  · rw [hv.ownB] at ho
    simp at e
    rcases e with e | e
    · exact hk e
    · exact ho (by simpa using e)
  · rw [hp.ownB, hv.ownB]; exact hl

def CompC (f : Nat) (g : Sp.Cp → Sp.Cp × Int) (p q : Nat) (w0 : World) : Prop := ∀ w c top, Bel p w0 w → CpAt w p c top → (g c).1.ns.length ≤ 1000000 → 0 ≤ c.told → (g c).1.told ≤ 1000000 →
  Calls Tryd.prog f #[.pointer (some ⟨p, 0, none⟩), .pointer (some ⟨q, 0, none⟩)] w (CompOut p (g c) top w)

theorem Sp.wrap0_len (a : Lab) (x : Sp.Cp × Int) : x.1.ns.length + 1 ≤ (Sp.wrap0 a x).1.ns.length := by
  unfold Sp.wrap0; split
  · simp [Sp.Cp.add]
  · rw [Sp.reps_len]; simp [Sp.Cp.add]
theorem Sp.wrap_len (a : Lab) (x : Sp.Cp × Int) : x.1.ns.length ≤ (Sp.wrap a x).1.ns.length := by
  unfold Sp.wrap; split
  · omega
  · rw [Sp.reps_len]; have := Sp.wrap0_len a x; omega

theorem Sp.wrap_told (a : Lab) (x : Sp.Cp × Int) : (Sp.wrap a x).1.told = x.1.told := by
  unfold Sp.wrap Sp.wrap0
  split
  · rfl
  · rw [Sp.reps_told]; split
    · rfl
    · rw [Sp.reps_told]; rfl

/-- A loop that adds a node a round. -/
structure RepInv (p : Nat) (top : Int) (w : World) (k b : Int) (y : Sp.Cp × Int) (lo hi : Int) (gn : Nat) (o i : Value) (wr : World) : Prop where
  st : ∃ j : Nat, o = .int .i64 (Sp.reps k b j y).2 ∧ i = .int .i64 (lo + j) ∧ gn + j = (hi - lo).toNat ∧ CpAt wr p (Sp.reps k b j y).1 top
  bel : Bel p w wr

attribute [local go_sem ↓] build_bigNode
set_option maxHeartbeats 1000000 in
theorem node_core (p q : Nat) (t : Tr) (l : Value) (w0 : World) (hq : PtAt w0 q (psOf t.lab l)) (hqp : q < p) (ha : Sp.LabOK t.lab) (hb : CompC 23 (Sp.bare t) p q w0) : CompC 14 (Sp.comp t) p q w0 := by
  intro w c top hbel hcp hlen ht0 ht1
  have ht2 : (Sp.bare t c).1.told ≤ 1000000 := by unfold Sp.comp at ht1; rw [Sp.wrap_told] at ht1; exact ht1
  have hlen1 : (Sp.bare t c).1.ns.length ≤ 1000000 := by have := Sp.wrap_len t.lab (Sp.bare t c); unfold Sp.comp at hlen; omega
  have HL : Hid ((Sp.wrap t.lab (Sp.bare t c)).1.ns.length ≤ 1000000) := hlen
  have HA : Hid (Sp.LabOK t.lab) := ha
  have hq0 : Hid (PtAt w q (psOf t.lab l)) := hq.bel hbel hqp
  have HG : Hid (Sp.comp t c = Sp.wrap t.lab (Sp.bare t c)) := rfl
  have hcall := hb w c top hbel hcp hlen1 ht0 ht2
  clear ht0 ht1 ht2 hq hb hbel hcp hlen ha
  rw [HG.out]
  clear HG
  go_enter Tryd.func14, Tryd.ntmps14
  go_wp2_with fail
  refine hcall.mono ?_
  clear hcall
  rintro e w1 ⟨rfl, hcp1, hbel1⟩
  have hq1 : Hid (PtAt w1 q (psOf t.lab l)) := hq0.out.bel hbel1 hqp
  have HC1 : Hid (CpAt w1 p (Sp.bare t c).1 top) := hcp1
  have HB1 : Hid (Bel p w w1) := hbel1
  generalize Sp.bare t c = x at *
  generalize t.lab = a at *
  clear hcp1 hbel1
  obtain ⟨p0, p1, p258, p259, p260, p261, p262, p263, pz⟩ := hq1.out.facts
  have q262 : w1.cell? ⟨q, 262, none⟩ = some (.int .i64 a.min) := p262
  have q263 : w1.cell? ⟨q, 263, none⟩ = some (.int .i64 a.max) := p263
  have h0 := HA.out.min0
  have h1 := HA.out.min1
  have h2 := HA.out.max0
  have h3 := HA.out.max1
  clear p0 p1 p258 p259 p260 p261 p262 p263 HA
  by_cases hm : a.min < 0
  · have HW : Hid (Sp.wrap a x = x) := by show _ = _; unfold Sp.wrap; rw [if_pos hm]
    go_wp2_with fail
    go_ret
    exact ⟨ret_int (by rw [HW.out]), by rw [HW.out]; exact HC1.out, HB1.out⟩
  · have HW : Hid (Sp.wrap a x = Sp.reps 2 x.2 a.min.toNat (Sp.wrap0 a x)) := by show _ = _; unfold Sp.wrap; rw [if_neg hm]
    by_cases hM : a.max < 0
    · have HW0 : Hid (Sp.wrap0 a x = x.1.add (Sp.nd 6 x.2 0)) := by show _ = _; unfold Sp.wrap0; rw [if_pos hM]
      have hbn := run_bigNode2
      go_wp2_with fail
      refine (add_cp p x.1 top _ w1 HC1.out hlen1).mono ?_
      rintro e w2 ⟨rfl, hc2, hb2⟩
      clear hbn
      have HC2 : Hid (CpAt w2 p (Sp.wrap0 a x).1 top) := by show CpAt _ _ _ _; rw [HW0.out]; exact hc2
      have HB2 : Hid (Bel p w w2) := HB1.out.trans hb2
      have HV2 : Hid ((x.1.add (Sp.nd 6 x.2 0)).2 = (Sp.wrap0 a x).2) := by show _ = _; rw [HW0.out]
      rw [HV2.out]
      clear hc2 hb2 HV2 HC1 HB1 hq1 q262 q263 pz
      go_wp2_with fail
      go_loopg [6, 8] (a.min - 0).toNat (fun gn o i wr => RepInv p top w 2 x.2 (Sp.wrap0 a x) 0 a.min gn o i wr)
      case atStart => exact ⟨⟨0, rfl, by go_num, by omega, HC2.out⟩, HB2.out⟩
      case round =>
        clear HC2 HB2
        obtain ⟨⟨j, rfl, rfl, hj, hc⟩, hbl⟩ := hrel
        have HJ : Hid (gk + j = (a.min - 0).toNat) := hj
        obtain ⟨p0, p1, p258, p259, p260, p261, p262, p263, pz⟩ := (hq0.out.bel hbl hqp).facts
        have q262 : wr.cell? ⟨q, 262, none⟩ = some (.int .i64 a.min) := p262
        have q263 : wr.cell? ⟨q, 263, none⟩ = some (.int .i64 a.max) := p263
        have HCr : Hid (CpAt wr p (Sp.reps 2 x.2 j (Sp.wrap0 a x)).1 top) := hc
        have HBr : Hid (Bel p w wr) := hbl
        clear p0 p1 p258 p259 p260 p261 p262 p263 hc hbl hj
        by_cases hlt : 0 < gk
        · obtain ⟨fuel, rfl⟩ : ∃ n, gk = n + 1 := ⟨gk - 1, by omega⟩
          have HLr : Hid ((Sp.reps 2 x.2 j (Sp.wrap0 a x)).1.ns.length ≤ 1000000) := by show _ ≤ _; rw [Sp.reps_len]; have h6 := HL.out; rw [HW.out, Sp.reps_len] at h6; have := HJ.out; omega
          have HN : Hid (Sp.reps 2 x.2 (j + 1) (Sp.wrap0 a x) = (Sp.reps 2 x.2 j (Sp.wrap0 a x)).1.add (Sp.nd 2 x.2 (Sp.reps 2 x.2 j (Sp.wrap0 a x)).2)) := Sp.reps_succ _ _ _ _
          have hjj : 0 + (j : Int) < a.min := by have := HJ.out; omega
          have hjn : (j : Int) ≤ 40 := by have := HJ.out; omega
          generalize Sp.reps 2 x.2 j (Sp.wrap0 a x) = z at *
          have hbn := run_bigNode3
          go_wp2_with fail
          refine (add_cp p z.1 top _ wr HCr.out HLr.out).mono ?_
          rintro e w3 ⟨rfl, hc3, hb3⟩
          clear hbn
          have HC3 : Hid (CpAt w3 p (z.1.add (Sp.nd 2 x.2 z.2)).1 top) := hc3
          have HB3 : Hid (Bel p w w3) := HBr.out.trans hb3
          clear hc3 hb3
          go_wp2_with fail
          go_roundg fuel
          case measure => omega
          case rel => exact ⟨⟨j + 1, by rw [HN.out], by go_num, by have := HJ.out; omega, by rw [HN.out]; exact HC3.out⟩, HB3.out⟩
        · have hjj : ¬ (0 + (j : Int) < a.min) := by have := HJ.out; omega
          have hjn : (j : Int) ≤ 40 := by have := HJ.out; omega
          have hgj : j = (a.min - 0).toNat := by have := HJ.out; omega
          have HE : Hid (Sp.wrap a x = Sp.reps 2 x.2 j (Sp.wrap0 a x)) := by show _ = _; rw [HW.out, hgj]; simp
          clear hgj
          generalize Sp.reps 2 x.2 j (Sp.wrap0 a x) = z at *
          go_wp2_with fail
          go_ret
          exact ⟨ret_int (by rw [HE.out]), by rw [HE.out]; exact HCr.out, HBr.out⟩
    · have HW0 : Hid (Sp.wrap0 a x = Sp.reps 5 x.2 (a.max - a.min).toNat (x.1.add (Sp.nd 0 0 0))) := by show _ = _; unfold Sp.wrap0; rw [if_neg hM]
      have hbn := run_bigNode1
      go_wp2_with fail
      refine (add_cp p x.1 top _ w1 HC1.out hlen1).mono ?_
      rintro e w2 ⟨rfl, hc2, hb2⟩
      clear hbn
      have HC2 : Hid (CpAt w2 p (x.1.add (Sp.nd 0 0 0)).1 top) := hc2
      have HB2 : Hid (Bel p w w2) := HB1.out.trans hb2
      have hq2 := (hq0.out.bel HB2.out hqp).facts
      obtain ⟨p0, p1, p258, p259, p260, p261, p262, p263, pz2⟩ := hq2
      have r262 : w2.cell? ⟨q, 262, none⟩ = some (.int .i64 a.min) := p262
      clear hc2 hb2 HC1 HB1 hq1 q262 q263 pz p0 p1 p258 p259 p260 p261 p262 p263
      go_wp2_with fail
      clear r262 pz2
      go_loopg [6, 7] (a.max - a.min).toNat (fun gn o i wr => RepInv p top w 5 x.2 (x.1.add (Sp.nd 0 0 0)) a.min a.max gn o i wr)
      case atStart => exact ⟨⟨0, rfl, by go_num, by omega, HC2.out⟩, HB2.out⟩
      case round =>
        clear HC2 HB2
        obtain ⟨⟨j, rfl, rfl, hj, hc⟩, hbl⟩ := hrel
        have HJ : Hid (gk + j = (a.max - a.min).toNat) := hj
        obtain ⟨p0, p1, p258, p259, p260, p261, p262, p263, pz⟩ := (hq0.out.bel hbl hqp).facts
        have q262 : wr.cell? ⟨q, 262, none⟩ = some (.int .i64 a.min) := p262
        have q263 : wr.cell? ⟨q, 263, none⟩ = some (.int .i64 a.max) := p263
        have HCr : Hid (CpAt wr p (Sp.reps 5 x.2 j (x.1.add (Sp.nd 0 0 0))).1 top) := hc
        have HBr : Hid (Bel p w wr) := hbl
        clear p0 p1 p258 p259 p260 p261 p262 p263 hc hbl hj
        by_cases hlt : 0 < gk
        · obtain ⟨fuel, rfl⟩ : ∃ n, gk = n + 1 := ⟨gk - 1, by omega⟩
          have HLr : Hid ((Sp.reps 5 x.2 j (x.1.add (Sp.nd 0 0 0))).1.ns.length ≤ 1000000) := by show _ ≤ _; rw [Sp.reps_len]; have h6 := HL.out; rw [HW.out, Sp.reps_len, HW0.out, Sp.reps_len] at h6; have := HJ.out; omega
          have HN : Hid (Sp.reps 5 x.2 (j + 1) (x.1.add (Sp.nd 0 0 0)) = (Sp.reps 5 x.2 j (x.1.add (Sp.nd 0 0 0))).1.add (Sp.nd 5 x.2 (Sp.reps 5 x.2 j (x.1.add (Sp.nd 0 0 0))).2)) := Sp.reps_succ _ _ _ _
          have hjj : a.min + (j : Int) < a.max := by have := HJ.out; omega
          have hjn : (j : Int) ≤ 40 := by have := HJ.out; omega
          generalize Sp.reps 5 x.2 j (x.1.add (Sp.nd 0 0 0)) = z at *
          have hbn := run_bigNode3
          go_wp2_with fail
          refine (add_cp p z.1 top _ wr HCr.out HLr.out).mono ?_
          rintro e w3 ⟨rfl, hc3, hb3⟩
          clear hbn
          have HC3 : Hid (CpAt w3 p (z.1.add (Sp.nd 5 x.2 z.2)).1 top) := hc3
          have HB3 : Hid (Bel p w w3) := HBr.out.trans hb3
          clear hc3 hb3
          go_wp2_with fail
          go_roundg fuel
          case measure => omega
          case rel => exact ⟨⟨j + 1, by rw [HN.out], by go_num, by have := HJ.out; omega, by rw [HN.out]; exact HC3.out⟩, HB3.out⟩
        · have hjj : ¬ (a.min + (j : Int) < a.max) := by have := HJ.out; omega
          have hjn : (j : Int) ≤ 40 := by have := HJ.out; omega
          have hgj : j = (a.max - a.min).toNat := by have := HJ.out; omega
          have HC2 : Hid (CpAt wr p (Sp.wrap0 a x).1 top) := by show CpAt _ _ _ _; rw [HW0.out, ← hgj]; exact HCr.out
          have HB2 : Hid (Bel p w wr) := HBr.out
          have HV2 : Hid ((Sp.reps 5 x.2 j (x.1.add (Sp.nd 0 0 0))).2 = (Sp.wrap0 a x).2) := by show _ = _; rw [HW0.out, ← hgj]
          rw [HV2.out]
          clear HCr HBr hgj HJ HV2
          go_wp2_with fail
          go_loopg [6, 8] (a.min - 0).toNat (fun gn o i wr => RepInv p top w 2 x.2 (Sp.wrap0 a x) 0 a.min gn o i wr)
          case atStart => exact ⟨⟨0, rfl, by go_num, by omega, HC2.out⟩, HB2.out⟩
          case round =>
            clear HC2 HB2
            obtain ⟨⟨j, rfl, rfl, hj, hc⟩, hbl⟩ := hrel
            have HJ : Hid (gk + j = (a.min - 0).toNat) := hj
            obtain ⟨p0, p1, p258, p259, p260, p261, p262, p263, pz⟩ := (hq0.out.bel hbl hqp).facts
            have q262 : wr.cell? ⟨q, 262, none⟩ = some (.int .i64 a.min) := p262
            have q263 : wr.cell? ⟨q, 263, none⟩ = some (.int .i64 a.max) := p263
            have HCr : Hid (CpAt wr p (Sp.reps 2 x.2 j (Sp.wrap0 a x)).1 top) := hc
            have HBr : Hid (Bel p w wr) := hbl
            clear p0 p1 p258 p259 p260 p261 p262 p263 hc hbl hj
            by_cases hlt : 0 < gk
            · obtain ⟨fuel, rfl⟩ : ∃ n, gk = n + 1 := ⟨gk - 1, by omega⟩
              have HLr : Hid ((Sp.reps 2 x.2 j (Sp.wrap0 a x)).1.ns.length ≤ 1000000) := by show _ ≤ _; rw [Sp.reps_len]; have h6 := HL.out; rw [HW.out, Sp.reps_len] at h6; have := HJ.out; omega
              have HN : Hid (Sp.reps 2 x.2 (j + 1) (Sp.wrap0 a x) = (Sp.reps 2 x.2 j (Sp.wrap0 a x)).1.add (Sp.nd 2 x.2 (Sp.reps 2 x.2 j (Sp.wrap0 a x)).2)) := Sp.reps_succ _ _ _ _
              have hjj : 0 + (j : Int) < a.min := by have := HJ.out; omega
              have hjn : (j : Int) ≤ 40 := by have := HJ.out; omega
              generalize Sp.reps 2 x.2 j (Sp.wrap0 a x) = z at *
              have hbn := run_bigNode3
              go_wp2_with fail
              refine (add_cp p z.1 top _ wr HCr.out HLr.out).mono ?_
              rintro e w3 ⟨rfl, hc3, hb3⟩
              clear hbn
              have HC3 : Hid (CpAt w3 p (z.1.add (Sp.nd 2 x.2 z.2)).1 top) := hc3
              have HB3 : Hid (Bel p w w3) := HBr.out.trans hb3
              clear hc3 hb3
              go_wp2_with fail
              go_roundg fuel
              case measure => omega
              case rel => exact ⟨⟨j + 1, by rw [HN.out], by go_num, by have := HJ.out; omega, by rw [HN.out]; exact HC3.out⟩, HB3.out⟩
            · have hjj : ¬ (0 + (j : Int) < a.min) := by have := HJ.out; omega
              have hjn : (j : Int) ≤ 40 := by have := HJ.out; omega
              have hgj : j = (a.min - 0).toNat := by have := HJ.out; omega
              have HE : Hid (Sp.wrap a x = Sp.reps 2 x.2 j (Sp.wrap0 a x)) := by show _ = _; rw [HW.out, hgj]; simp
              clear hgj
              generalize Sp.reps 2 x.2 j (Sp.wrap0 a x) = z at *
              go_wp2_with fail
              go_ret
              exact ⟨ret_int (by rw [HE.out]), by rw [HE.out]; exact HCr.out, HBr.out⟩
end Go.Proofs.YtcpfpnjkfahjcaaDoor

set_option linter.unusedSimpArgs false
set_option linter.unusedVariables false
namespace Go.Proofs.YtcpfpnjkfahjcaaDoor
open Go.RowKit

theorem ndCells_len (n : Sp.Nd) : (ndCells n).length = 260 := by simp [ndCells]
theorem ndCells_set (n : Sp.Nd) (c : Nat) (hc : c < 256) (v : Bool) : (ndCells n).set (3 + c) (.bool v) = ndCells { n with set := fun k => if k = c then v else n.set k } := by
  apply List.ext_getElem?
  intro i
  rw [List.getElem?_set, ndCells_len]
  unfold ndCells
  rcases i with _ | _ | _ | i
  · first | (simp; done) | (simp; omega)
  · first | (simp; done) | (simp; omega)
  · first | (simp; done) | (simp; omega)
  · by_cases hi : i < 256
    · by_cases e : i = c
      · subst e; rw [if_pos (by omega), if_pos (by omega)]; simp [List.getElem?_append, hi]
      · rw [if_neg (by omega)]; simp [List.getElem?_append, hi, e]
    · rw [if_neg (by omega)]; simp [List.getElem?_append, hi]
theorem ndArr_set (n : Sp.Nd) (c : Nat) (hc : c < 256) (v : Bool) : (ndArr n).setIfInBounds (3 + c) (.bool v) = ndArr { n with set := fun k => if k = c then v else n.set k } := by
  unfold ndArr; rw [← ndCells_set n c hc v]; simp
theorem ndArr_get (n : Sp.Nd) (c : Nat) (hc : c < 256) : (ndArr n)[3 + c]? = some (.bool (n.set c)) := by
  unfold ndArr ndCells
  rw [List.getElem?_toArray, Nat.add_comm 3 c]
  show (List.map _ _ ++ _)[c]? = _
  simp [List.getElem?_append, hc]
theorem ndArr_congr {n m : Sp.Nd} (h1 : n.kind = m.kind) (h2 : n.a = m.a) (h3 : n.b = m.b) (h4 : ∀ c, c < 256 → n.set c = m.set c) (h5 : n.num = m.num) : ndArr n = ndArr m := by
  unfold ndArr ndCells
  rw [h1, h2, h3, h5]
  have : (List.range 256).map (fun c => Value.bool (n.set c)) = (List.range 256).map (fun c => Value.bool (m.set c)) := List.map_congr_left (fun c hc => by rw [h4 c (by simpa using hc)])
  rw [this]
theorem ndArr_a (n : Sp.Nd) (x : Int) : (ndArr n).setIfInBounds 1 (.int .i64 x) = ndArr { n with a := x } := rfl
theorem set_last (x y z u v : Value) (l : List Value) (n : Nat) (hn : n = l.length + 3) : (x :: y :: z :: (l ++ [u])).set n v = x :: y :: z :: (l ++ [v]) := by
  subst hn; simp
theorem ndArr_num (n : Sp.Nd) (x : Int) : (ndArr n).setIfInBounds 259 (.int .i64 x) = ndArr { n with num := x } := by
  have h := set_last (.int .i64 n.kind) (.int .i64 n.a) (.int .i64 n.b) (.int .i64 n.num) (.int .i64 x) ((List.range 256).map (fun c => Value.bool (n.set c))) 259 (by rw [List.length_map, List.length_range])
  have h2 : (ndCells n).set 259 (.int .i64 x) = ndCells { n with num := x } := h
  unfold ndArr
  rw [← h2]
  generalize ndCells n = l
  simp

/-- A node that lies by itself. -/
def NdAt (w : World) (b : Nat) (n : Sp.Nd) : Prop := w.heap[b]? = some (.cells (ndArr n) 81 (0, 0))
theorem NdAt.node {w : World} {b : Nat} {n : Sp.Nd} (h : NdAt w b n) : nodeOf w b = ndArr n := by unfold nodeOf; rw [h]
theorem NdAt.ok {w : World} {b : Nat} {n : Sp.Nd} (h : NdAt w b n) : nodeOK w b = true := by unfold nodeOK; rw [h]; simp [ndArr_size]
theorem NdAt.load {w : World} {b : Nat} {n : Sp.Nd} (h : NdAt w b n) (k : Nat) : (bigLoad (.pointer (some ⟨b, 0, none⟩))).run Tryd.prog (w.drewN k) = .ok (.agg (ndArr n)) (w.drewN k) := by
  rw [run_bigLoad _ _ (by rw [nodeOK_drewN]; exact h.ok), nodeOf_drewN, h.node]
theorem NdAt.load0 {w : World} {b : Nat} {n : Sp.Nd} (h : NdAt w b n) : (bigLoad (.pointer (some ⟨b, 0, none⟩))).run Tryd.prog w = .ok (.agg (ndArr n)) w := h.load 0
theorem NdAt.setC {w : World} {b : Nat} {n : Sp.Nd} (h : NdAt w b n) (c : Nat) (hc : c < 256) (v : Bool) : NdAt (w.setCell ⟨b, 3 + c, none⟩ (.bool v)) b { n with set := fun k => if k = c then v else n.set k } := by
  have := heap_set h (3 + c) (.bool v); rw [ndArr_set n c hc v] at this; exact this
theorem NdAt.setA {w : World} {b : Nat} {n : Sp.Nd} (h : NdAt w b n) (x : Int) : NdAt (w.setCell ⟨b, 1, none⟩ (.int .i64 x)) b { n with a := x } := by
  have := heap_set h 1 (.int .i64 x); rw [ndArr_a n x] at this; exact this
theorem NdAt.setNum {w : World} {b : Nat} {n : Sp.Nd} (h : NdAt w b n) (x : Int) : NdAt (w.setCell ⟨b, 259, none⟩ (.int .i64 x)) b { n with num := x } := by
  have := heap_set h 259 (.int .i64 x); rw [ndArr_num n x] at this; exact this
theorem NdAt.cellC {w : World} {b : Nat} {n : Sp.Nd} (h : NdAt w b n) (c : Nat) (hc : c < 256) : w.cell? ⟨b, 3 + c, none⟩ = some (.bool (n.set c)) := by
  have := ndArr_get n c hc
  simp [World.cell?, show w.heap[b]? = _ from h, this]
theorem NdAt.fz {w : World} {b : Nat} {n : Sp.Nd} (h : NdAt w b n) (o : Nat) : w.frozen? ⟨b, o, none⟩ = false := by simp [World.frozen?, show w.heap[b]? = _ from h]
theorem NdAt.new (w : World) (n : Sp.Nd) : NdAt (w.alloc (.cells (ndArr n) 81)) w.heap.size n := by show (w.heap.push _)[w.heap.size]? = _; simp
theorem NdAt.lt {w : World} {b : Nat} {n : Sp.Nd} (h : NdAt w b n) : b < w.heap.size := lt_of_heap h

theorem CpAt.same {w w' : World} {p : Nat} {c : Sp.Cp} {top : Int} (h : CpAt w p c top) {b : Nat} (hb : ∀ k, k < b → w'.heap[k]? = w.heap[k]?) (hp : ∀ v, PatAt w p v c.ns.length (c.ns.flatMap ndCells) top c.told → p < b ∧ ∀ g, v.ownBlock = some g → g < b) : CpAt w' p c top := by
  obtain ⟨v, h1, h2⟩ := h
  have := hp v ⟨h1, h2⟩
  exact ⟨v, by rw [hb p this.1]; exact h1, ownsRow_same h2 (fun g hg _ => hb g (this.2 g hg))⟩
end Go.Proofs.YtcpfpnjkfahjcaaDoor
