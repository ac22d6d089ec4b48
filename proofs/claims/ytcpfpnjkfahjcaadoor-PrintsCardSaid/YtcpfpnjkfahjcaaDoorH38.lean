import Derived.Test.YtcpfpnjkfahjcaaDoorH37
import Derived.Deep.WholeRow
set_option linter.unusedSimpArgs false
set_option linter.unusedVariables false
namespace Go.Proofs.YtcpfpnjkfahjcaaDoor
open Go.RowKit
/-- A whole node into a variable that was made last, kept closed. -/
def bigStore (a v : Value) : Sem Unit := Instr.storeAt 81 a v
theorem storeAt_node (a v : Value) : Instr.storeAt 81 a v = bigStore a v := rfl
theorem run_bigStore (w : World) (n : Sp.Nd) : (bigStore (.pointer (some ⟨w.heap.size, 0, none⟩)) (.agg (ndArr n))).run Tryd.prog (w.alloc (.cells Tryd.zeroCells81 81)) = .ok () (w.alloc (.cells (ndArr n) 81)) := by
  obtain ⟨it, z, hi1, hi2, hi3, hi4, hi5⟩ := infoNode
  have hz : Tryd.zeroCells81.size = 260 := by kernel_rfl
  exact run_storeAt_new w 81 _ _ (by rw [hi1]; simp [ndArr_size, hi3]) (by rw [hz, ndArr_size]) (by rw [Array.all_eq_true_iff_forall_mem]; intro u hu; exact ndArr_one n u (by simpa using hu))
attribute [local go_sem ↓] build_bigNode loadAt_node storeAt_node

theorem Bel.setCell {p : Nat} {w w' : World} (h : Bel p w w') {b : Nat} (hb : w.heap.size ≤ b) (hp : p < w.heap.size) (o : Nat) (u : Value) : Bel p w (w'.setCell ⟨b, o, none⟩ u) := by
  have hk : ∀ k, k < w.heap.size → (w'.setCell ⟨b, o, none⟩ u).heap[k]? = w'.heap[k]? := fun k hk => Below.heap_setCell _ _ _ _ (by simp; omega)
  exact ⟨h.os, h.tape, h.output, by have := h.size; simp [World.setCell]; omega, fun k h1 h2 => (hk k h2).trans (h.block k h1 h2), fun k h1 h2 h3 => (hk k h1).trans (h.rest k h1 h2 h3), by rw [ownB_same (hk p hp)]; exact h.own⟩
theorem Bel.alloc {p : Nat} {w w' : World} (h : Bel p w w') (hp : p < w.heap.size) (o : Obj) : Bel p w (w'.alloc o) := by
  have hs := h.size
  have hk : ∀ k, k < w.heap.size → (w'.alloc o).heap[k]? = w'.heap[k]? := fun k hk => Below.heap_alloc _ _ _ (by omega)
  exact ⟨h.os, h.tape, h.output, by simp; omega, fun k h1 h2 => (hk k h2).trans (h.block k h1 h2), fun k h1 h2 h3 => (hk k h1).trans (h.rest k h1 h2 h3), by rw [ownB_same (hk p hp)]; exact h.own⟩
theorem CpAt.lt {w : World} {p : Nat} {c : Sp.Cp} {top : Int} (h : CpAt w p c top) : p < w.heap.size := by obtain ⟨v, h1, _⟩ := h; exact lt_of_heap h1
theorem CpAt.alloc {w : World} {p : Nat} {c : Sp.Cp} {top : Int} (h : CpAt w p c top) (o : Obj) : CpAt (w.alloc o) p c top := by
  have hp := h.lt
  obtain ⟨v, h1, h2⟩ := h
  exact ⟨v, by rw [Below.heap_alloc _ _ _ hp]; exact h1, h2.alloc _⟩
/-- The pattern's blocks lie below a node that is by itself. -/
structure CpBel (w : World) (p b : Nat) (c : Sp.Cp) (top : Int) : Prop where
  lt : p < b
  at' : ∃ v, PatAt w p v c.ns.length (c.ns.flatMap ndCells) top c.told ∧ ∀ g, v.ownBlock = some g → g < b
theorem CpBel.new {w : World} {p : Nat} {c : Sp.Cp} {top : Int} (h : CpAt w p c top) (o : Obj) : CpBel (w.alloc o) p w.heap.size c top := by
  have hp := h.lt
  obtain ⟨v, h1, h2⟩ := h
  exact ⟨hp, v, ⟨by rw [Below.heap_alloc _ _ _ hp]; exact h1, h2.alloc _⟩, fun g hg => (ownBlock_lt h2 hg).1⟩
theorem CpBel.setCell {w : World} {p b : Nat} {c : Sp.Cp} {top : Int} (h : CpBel w p b c top) (o : Nat) (u : Value) : CpBel (w.setCell ⟨b, o, none⟩ u) p b c top := by
  obtain ⟨h1, v, ⟨h2, h3⟩, h4⟩ := h
  exact ⟨h1, v, ⟨by rw [Below.heap_setCell _ _ _ _ (by simp; omega)]; exact h2, ownsRow_same h3 (fun g hg _ => Below.heap_setCell _ _ _ _ (by have := h4 g hg; simp; omega))⟩, h4⟩
theorem CpBel.drew {w : World} {p b : Nat} {c : Sp.Cp} {top : Int} (h : CpBel w p b c top) : CpBel w.drew p b c top := by
  obtain ⟨h1, v, ⟨h2, h3⟩, h4⟩ := h; exact ⟨h1, v, ⟨h2, h3⟩, h4⟩
theorem CpAt.drew {w : World} {p : Nat} {c : Sp.Cp} {top : Int} (h : CpAt w p c top) : CpAt w.drew p c top := by
  obtain ⟨v, ⟨h2, h3⟩⟩ := h; exact ⟨v, ⟨h2, h3⟩⟩
theorem CpBel.cp {w : World} {p b : Nat} {c : Sp.Cp} {top : Int} (h : CpBel w p b c top) : CpAt w p c top := by
  obtain ⟨h1, v, h2, h4⟩ := h; exact ⟨v, h2⟩

/-- The bytes of a list, as they are written. -/
def listN (a : Lab) (c : Nat) : Sp.Nd := ⟨1, 0, 0, fun k => decide (k < c) && (a.set k != a.not), 0⟩
structure ListN (p b : Nat) (top : Int) (w : World) (cp : Sp.Cp) (a : Lab) (gn : Nat) (i : Value) (wr : World) : Prop where
  st : ∃ c : Nat, i = .int .i64 c ∧ gn + c = 256 ∧ NdAt wr b (listN a c)
  cp : CpBel wr p b cp top
  bel : Bel p w wr
theorem listN_step (a : Lab) (c : Nat) : { listN a c with set := fun k => if k = c then (a.set c != a.not) else (listN a c).set k } = listN a (c + 1) := by
  have hf : (fun k => if k = c then (a.set c != a.not) else (listN a c).set k) = (listN a (c + 1)).set := by
    funext k
    unfold listN
    by_cases e : k = c
    · subst e; simp
    · have : decide (k < c + 1) = decide (k < c) := by simp; omega
      simp only [this, if_neg e]
  rw [hf]; rfl

set_option maxRecDepth 100000 in
set_option maxHeartbeats 1000000 in
theorem bare_98 (p q : Nat) (t : Tr) (l : Value) (w0 : World) (hq : PtAt w0 q (psOf t.lab l)) (hqp : q < p) (hk : t.lab.kind ≤ 2) (hk' : kindOf t.lab.kind = 98) : CompC 23 (Sp.bare t) p q w0 := by
  intro w c top hbel hcp hlen ht0 ht1
  clear ht0 ht1
  have HG : Hid (Sp.bare t c = c.add ⟨1, 0, 0, fun k => t.lab.set k != t.lab.not, 0⟩) := by show _ = _; unfold Sp.bare Sp.bareEnd; rw [if_pos hk]
  rw [HG.out] at hlen ⊢
  have hlen1 : c.ns.length ≤ 1000000 := by simp [Sp.Cp.add] at hlen; omega
  have hq0 : Hid (PtAt w q (psOf t.lab l)) := hq.bel hbel hqp
  generalize t.lab = a at *
  clear HG hq hbel hlen
  have HCP : Hid (CpAt w p c top) := hcp
  have hp := hcp.lt
  clear hcp
  have q0 : w.cell? ⟨q, 0, none⟩ = some (.int .u8 98) := by rw [← hk']; exact hq0.out.facts.1
  have pz := hq0.out.facts.fz
  have hbn := run_bigNode1
  have hbs := run_bigStore w
  clear hk'
  go_enter Tryd.func23, Tryd.ntmps23
  go_wp2_with fail
  have HN1 : Hid (NdAt (w.alloc (.cells (ndArr (Sp.nd 1 0 0)) 81)) w.heap.size (Sp.nd 1 0 0)) := NdAt.new w _
  have HC1 : Hid (CpBel (w.alloc (.cells (ndArr (Sp.nd 1 0 0)) 81)) p w.heap.size c top) := CpBel.new HCP.out _
  have HB1 : Hid (Bel p w (w.alloc (.cells (ndArr (Sp.nd 1 0 0)) 81))) := (Bel.refl p w).alloc hp _
  clear hbn hbs q0 pz
  generalize w.alloc (.cells (ndArr (Sp.nd 1 0 0)) 81) = w1 at *
  go_loopg [6] 256 (fun gn i wr => ListN p w.heap.size top w c a gn i wr)
  case atStart => exact ⟨⟨0, rfl, rfl, by have h := HN1.out; unfold NdAt at *; rw [h, ndArr_congr (n := Sp.nd 1 0 0) (m := listN a 0) rfl rfl rfl (fun k _ => by simp [Sp.nd, listN]) rfl]⟩, HC1.out, HB1.out⟩
  case round =>
    clear HN1 HC1 HB1
    obtain ⟨⟨k, rfl, hgk, hn⟩, hcb, hbl⟩ := hrel
    have HK : Hid (gk + k = 256) := hgk
    have HQ : PtAt wr q (psOf a l) := hq0.out.bel hbl hqp
    have r258 : wr.cell? ⟨q, 258, none⟩ = some (.bool a.not) := HQ.facts.3
    have pz := HQ.facts.fz
    have HN : Hid (NdAt wr w.heap.size (listN a k)) := hn
    have HCB : Hid (CpBel wr p w.heap.size c top) := hcb
    have HB : Hid (Bel p w wr) := hbl
    have nz := hn.fz
    by_cases hlt : k < 256
    · have rk : wr.cell? ⟨q, 2 + k, none⟩ = some (.bool (a.set k)) := HQ.setFact k hlt
      have nk := hn.cellC k hlt
      obtain ⟨fuel, rfl⟩ : ∃ n, gk = n + 1 := ⟨gk - 1, by omega⟩
      have HN2 : Hid (NdAt (wr.setCell ⟨w.heap.size, 3 + k, none⟩ (.bool (a.set k != a.not))) w.heap.size (listN a (k + 1))) := by have h := hn.setC k hlt (a.set k != a.not); rw [listN_step] at h; exact h
      have HC2 : Hid (CpBel (wr.setCell ⟨w.heap.size, 3 + k, none⟩ (.bool (a.set k != a.not))) p w.heap.size c top) := hcb.setCell _ _
      have HB2 : Hid (Bel p w (wr.setCell ⟨w.heap.size, 3 + k, none⟩ (.bool (a.set k != a.not)))) := hbl.setCell (Nat.le_refl _) hp _ _
      clear hn hcb hbl hgk HQ
      go_wp2_with fail
      go_region
      all_goals
        go_wp2_with fail
        go_roundg fuel
        case measure => omega
        case rel => exact ⟨⟨k + 1, by go_num, by have := HK.out; omega, HN2.out⟩, HC2.out.drew, HB2.out.drewN 1⟩
    · have hk6 : k = 256 := by omega
      subst hk6
      have hld := hn.load0
      have HE : Hid (ndArr (listN a 256) = ndArr ⟨1, 0, 0, fun k => a.set k != a.not, 0⟩) := ndArr_congr rfl rfl rfl (fun k hk => by simp [listN, hk]) rfl
      rw [HE.out] at hld
      clear hn hcb hbl hgk HQ HE
      go_wp2_with fail
      refine (add_cp p c top _ wr HCB.out.cp hlen1).mono ?_
      rintro e w3 ⟨rfl, hc3, hb3⟩
      go_wp2_with fail
      go_ret
      exact ⟨rfl, hc3, HB.out.trans hb3⟩
end Go.Proofs.YtcpfpnjkfahjcaaDoor

set_option linter.unusedSimpArgs false
set_option linter.unusedVariables false
namespace Go.Proofs.YtcpfpnjkfahjcaaDoor
open Go.RowKit
attribute [local go_sem ↓] build_bigNode loadAt_node storeAt_node

theorem CpBel.told {w : World} {p b : Nat} {c : Sp.Cp} {top : Int} (h : CpBel w p b c top) (z : Int) : CpBel (w.setCell ⟨p, 2, none⟩ (.int .i64 z)) p b ⟨c.ns, z⟩ top := by
  obtain ⟨h1, v, ⟨h2, h3⟩, h4⟩ := h
  exact ⟨h1, v, ⟨heap_set h2 2 _, ownsRow_same h3 (fun g hg _ => Below.heap_setCell _ _ _ _ (by have := (ownBlock_lt h3 hg).2; simp; omega))⟩, h4⟩
theorem CpBel.cells {w : World} {p b : Nat} {c : Sp.Cp} {top : Int} (h : CpBel w p b c top) : w.cell? ⟨p, 2, none⟩ = some (.int .i64 c.told) ∧ ∀ o, w.frozen? ⟨p, o, none⟩ = false := by
  obtain ⟨h1, v, ⟨h2, h3⟩, h4⟩ := h
  exact ⟨by simp [World.cell?, h2], fun o => by simp [World.frozen?, h2]⟩
theorem CpBel.ownB {w : World} {p b : Nat} {c : Sp.Cp} {top : Int} (h : CpBel w p b c top) (k : Nat) (hk : b ≤ k) : Go.Proofs.YtcpfpnjkfahjcaaDoor.ownB w p ≠ some k := by
  obtain ⟨h1, v, h2, h4⟩ := h
  rw [h2.ownB]; intro e; have := h4 k e; omega
theorem Bel.setP {p : Nat} {w w' : World} (h : Bel p w w') {c : Sp.Cp} {top : Int} {b : Nat} (hc : CpBel w' p b c top) (z : Int) : Bel p w (w'.setCell ⟨p, 2, none⟩ (.int .i64 z)) := by
  have h' := hc.told z
  obtain ⟨h1, v, h2, h4⟩ := hc
  have hb := heap_set h2.block 2 (.int .i64 z)
  have hk : ∀ k, k ≠ p → (w'.setCell ⟨p, 2, none⟩ (.int .i64 z)).heap[k]? = w'.heap[k]? := fun k hk => Below.heap_setCell _ _ _ _ (by simpa using hk)
  have ho : Go.Proofs.YtcpfpnjkfahjcaaDoor.ownB (w'.setCell ⟨p, 2, none⟩ (.int .i64 z)) p = Go.Proofs.YtcpfpnjkfahjcaaDoor.ownB w' p := by rw [h2.ownB]; unfold Go.Proofs.YtcpfpnjkfahjcaaDoor.ownB; rw [hb]; rfl
  exact ⟨h.os, h.tape, h.output, by have := h.size; simp [World.setCell]; omega, fun k h1 h2 => (hk k (by omega)).trans (h.block k h1 h2), fun k h1 h2 h3 => (hk k h2).trans (h.rest k h1 h2 h3), by rw [ho]; exact h.own⟩
theorem CpAt.setCell {w : World} {p b : Nat} {c : Sp.Cp} {top : Int} (h : CpAt w p c top) (hb : b ≠ p) (ho : ownB w p ≠ some b) (o : Nat) (u : Value) : CpAt (w.setCell ⟨b, o, none⟩ u) p c top := by
  obtain ⟨v, h2⟩ := h
  have hq := h2.ownB
  exact ⟨v, ⟨by rw [Below.heap_setCell _ _ _ _ (by simpa using hb.symm)]; exact h2.block, ownsRow_same h2.own (fun g hg _ => Below.heap_setCell _ _ _ _ (by simp; intro e; exact ho (by rw [hq, hg, e])))⟩⟩
theorem NdAt.bel {w w' : World} {p b : Nat} {n : Sp.Nd} (h : NdAt w b n) (u : Bel p w w') (hb : b ≠ p) (ho : ownB w p ≠ some b) : NdAt w' b n := (u.rest b h.lt hb ho).trans h
theorem Bel.own_ne {w w' : World} {p b : Nat} (u : Bel p w w') (hb : b < w.heap.size) (ho : ownB w p ≠ some b) : ownB w' p ≠ some b := by
  rcases u.own with q | ⟨g, q, hg⟩
  · rw [q]; exact ho
  · rw [q]; simp; omega
/-- A node's own row, seen from a later world. -/
theorem kid_facts {w0 w : World} {p q : Nat} {a : Lab} {l : Value} {qs : List Nat} (h : NodeAt w0 q a l qs) (u : Bel p w0 w) (hqp : q < p) (hl : ∀ g, l.ownBlock = some g → g < p) : NodeAt w q a l qs :=
  ⟨h.pt.bel u hqp, ownsRow_same h.own (fun g hg hlt => u.block g (hl g hg) hlt)⟩
theorem NdAt.cellN {w : World} {b : Nat} {n : Sp.Nd} (h : NdAt w b n) : w.cell? ⟨b, 259, none⟩ = some (.int .i64 n.num) := by
  have h2 : (ndArr n)[259]? = some (.int .i64 n.num) := rfl
  simp [World.cell?, show w.heap[b]? = _ from h, h2]
theorem NdAt.cellA {w : World} {b : Nat} {n : Sp.Nd} (h : NdAt w b n) : w.cell? ⟨b, 1, none⟩ = some (.int .i64 n.a) := by
  have h2 : (ndArr n)[1]? = some (.int .i64 n.a) := rfl
  simp [World.cell?, show w.heap[b]? = _ from h, h2]
def grpN (num : Int) : Sp.Nd := ⟨4, 0, 0, fun _ => false, num⟩

theorem Sp.Cp.add_told (c : Sp.Cp) (n : Sp.Nd) : (c.add n).1.told = c.told := rfl
theorem Sp.pick_told : ∀ (l : List Int) (x : Sp.Cp × Int), (Sp.pick l x).1.told = x.1.told
  | [], _ => rfl
  | k :: r, x => by rw [Sp.pick, Sp.pick_told r]; split <;> rfl
theorem Sp.chain_told : ∀ (l : List Int) (x : Sp.Cp × Int), (Sp.chain l x).1.told = x.1.told
  | [], _ => rfl
  | k :: r, x => by rw [Sp.chain, Sp.chain_told r]; rfl
theorem Sp.open1_told (a : Lab) (c : Sp.Cp) : c.told ≤ (Sp.open1 a c).told := by
  unfold Sp.open1; split
  · show c.told ≤ c.told + 1; omega
  · omega
theorem Sp.bareEnd_told (a : Lab) (c : Sp.Cp) (x : Sp.Cp × List Int) (h : c.told ≤ x.1.told) : c.told ≤ (Sp.bareEnd a c x).1.told := by
  unfold Sp.bareEnd; repeat' split
  · rw [Sp.Cp.add_told]; omega
  · rw [Sp.Cp.add_told]; omega
  · rw [Sp.pick_told]; exact h
  · rw [Sp.chain_told, Sp.Cp.add_told]; exact h
theorem Sp.comps_told : ∀ (l : List Tr) (c : Sp.Cp), c.told ≤ (Sp.comps l c).1.told
  | [], c => by rw [Sp.comps_nil]; exact Int.le_refl _
  | ⟨a, ks⟩ :: r, c => by
    rw [Sp.comps_cons]
    have h1 := Sp.comps_told ks (Sp.open1 a c)
    have h2 := Sp.open1_told a c
    have h3 := Sp.bareEnd_told a c (Sp.comps ks (Sp.open1 a c)) (by omega)
    have h4 : (Sp.comp ⟨a, ks⟩ c).1.told = (Sp.bareEnd a c (Sp.comps ks (Sp.open1 a c))).1.told := by unfold Sp.comp Sp.bare; rw [Sp.wrap_told]
    have h5 := Sp.comps_told r (Sp.comp ⟨a, ks⟩ c).1
    show _ ≤ (Sp.comps r _).1.told
    omega
theorem Sp.comp_told (t : Tr) (c : Sp.Cp) : c.told ≤ (Sp.comp t c).1.told := by
  have h := Sp.comps_told [t] c
  rw [Sp.comps_cons, Sp.comps_nil] at h; exact h

set_option maxRecDepth 100000 in
set_option maxHeartbeats 1000000 in
theorem bare_40n (p q q1 : Nat) (a : Lab) (t1 : Tr) (l : Value) (w0 : World) (hq : NodeAt w0 q a l [q1]) (hqp : q < p) (hgl : ∀ g, l.ownBlock = some g → g < p) (hk : a.kind = 3) (hT : a.told = false) (hih : CompC 14 (Sp.comp t1) p q1 w0) : CompC 23 (Sp.bare ⟨a, [t1]⟩) p q w0 := by
  intro w c top hbel hcp hlen ht0 ht1
  have HG : Hid (Sp.bare ⟨a, [t1]⟩ c = (Sp.comp t1 c).1.add ⟨4, (Sp.comp t1 c).2, 0, fun _ => false, 0⟩) := by
    show _ = _
    unfold Sp.bare Sp.bareEnd Sp.open1 Sp.numOf
    simp [hk, hT, Sp.comps_cons, Sp.comps_nil]
  rw [HG.out] at hlen ht1 ⊢
  clear HG
  have hlen1 : (Sp.comp t1 c).1.ns.length ≤ 1000000 := by simp [Sp.Cp.add] at hlen; omega
  have ht2 : (Sp.comp t1 c).1.told ≤ 1000000 := ht1
  have htl : c.told + 1 ≤ 1000001 := by have := Sp.comp_told t1 c; omega
  have HK : Hid (NodeAt w q a l [q1]) := kid_facts hq hbel hqp hgl
  have HCP : Hid (CpAt w p c top) := hcp
  have HB0 : Hid (Bel p w0 w) := hbel
  have HIH : Hid (CompC 14 (Sp.comp t1) p q1 w0) := hih
  have hp := hcp.lt
  clear hcp hbel hih hq hlen ht1
  have q0 : w.cell? ⟨q, 0, none⟩ = some (.int .u8 40) := by have h := HK.out.pt.facts.1; rw [h]; simp [psOf, kindOf, hk]
  have pz := HK.out.pt.facts.fz
  have q261 : w.cell? ⟨q, 261, none⟩ = some (.bool false) := by rw [← hT]; exact HK.out.pt.facts.6
  obtain ⟨g, cap, rfl, hcap, hcap2, hcell⟩ : ∃ g cap, l = .slice (some ⟨g, 0, none⟩) 1 cap ∧ 1 ≤ cap ∧ cap ≤ maxLen ∧ w.cell? ⟨g, 0, none⟩ = some (ptr q1) := by
    rcases own_cells HK.out.own with ⟨_, h⟩ | ⟨g, cap, h1, h2, h3, h4⟩
    · cases h
    · exact ⟨g, cap, h1, h2, h3, h4 0 q1 rfl⟩
  have hgp : g < p := hgl g rfl
  unfold ptr at hcell
  have hq1 : w.cell? ⟨q, 1, none⟩ = some (.slice (some ⟨g, 0, none⟩) 1 cap) := HK.out.pt.facts.2
  have HKs : ∀ W : World, Bel p w W → (∀ o x, w.cell? ⟨q, o, none⟩ = some x → W.cell? ⟨q, o, none⟩ = some x) ∧ W.cell? ⟨g, 0, none⟩ = some (.pointer (some ⟨q1, 0, none⟩)) := fun W hW => ⟨fun o x hx => by
      have := hW.block q hqp (by omega); unfold World.cell? at hx ⊢; simpa [this] using hx, by
      have := hW.block g hgp (by omega); unfold World.cell? at hcell ⊢; simpa [this] using hcell⟩
  have HB1 : Hid (Bel p w (w.alloc (.cells (ndArr (Sp.nd 4 0 0)) 81))) := (Bel.refl p w).alloc hp _
  have HN1 : Hid (NdAt (w.alloc (.cells (ndArr (Sp.nd 4 0 0)) 81)) w.heap.size (grpN 0)) := NdAt.new w _
  have HC1 : Hid (CpBel (w.alloc (.cells (ndArr (Sp.nd 4 0 0)) 81)) p w.heap.size c top) := CpBel.new HCP.out _
  have r261 := (HKs _ HB1.out).1 261 _ q261
  have HB3 := HB1
  have HC3 := HC1
  have HN3 := HN1
  have r1 := (HKs _ HB3.out).1 1 _ hq1
  have rg := (HKs _ HB3.out).2
  have hbn := run_bigNode1
  have hbs := run_bigStore w
  clear HKs
  go_enter Tryd.func23, Tryd.ntmps23
  go_wp2_with fail
  refine (HIH.out _ c top (HB0.out.trans HB3.out) HC3.out.cp hlen1 ht0 ht2).mono ?_
  rintro e w4 ⟨rfl, hc4, hb4⟩
  have HN4 : NdAt w4 w.heap.size (grpN 0) := HN3.out.bel hb4 (by omega) (HC3.out.ownB _ (Nat.le_refl _))
  have HO4 : ownB w4 p ≠ some w.heap.size := hb4.own_ne HN3.out.lt (HC3.out.ownB _ (Nat.le_refl _))
  have n4z := HN4.fz
  have n4a : w4.cell? ⟨w.heap.size, 1, none⟩ = some (.int .i64 0) := HN4.cellA
  have HB4 : Hid (Bel p w w4) := HB3.out.trans hb4
  have HN5 : Hid (NdAt (w4.setCell ⟨w.heap.size, 1, none⟩ (.int .i64 (Sp.comp t1 c).2)) w.heap.size ⟨4, (Sp.comp t1 c).2, 0, fun _ => false, 0⟩) := HN4.setA (Sp.comp t1 c).2
  have HC5 : Hid (CpAt (w4.setCell ⟨w.heap.size, 1, none⟩ (.int .i64 (Sp.comp t1 c).2)) p (Sp.comp t1 c).1 top) := hc4.setCell (by omega) HO4 _ _
  have HB5 : Hid (Bel p w (w4.setCell ⟨w.heap.size, 1, none⟩ (.int .i64 (Sp.comp t1 c).2))) := HB4.out.setCell (Nat.le_refl _) hp _ _
  have hld := HN5.out.load0
  clear hc4 hb4 HN4 HO4 HB4 HB3 HC3 HN3 r1 rg hbn hbs r261 HB1 HC1 HN1
  go_wp2_with fail
  refine (add_cp p (Sp.comp t1 c).1 top _ _ HC5.out hlen1).mono ?_
  rintro e w6 ⟨rfl, hc6, hb6⟩
  go_wp2_with fail
  go_ret
  exact ⟨rfl, hc6, HB5.out.trans hb6⟩

set_option maxRecDepth 100000 in
set_option maxHeartbeats 1000000 in
theorem bare_40t (p q q1 : Nat) (a : Lab) (t1 : Tr) (l : Value) (w0 : World) (hq : NodeAt w0 q a l [q1]) (hqp : q < p) (hgl : ∀ g, l.ownBlock = some g → g < p) (hk : a.kind = 3) (hT : a.told = true) (hih : CompC 14 (Sp.comp t1) p q1 w0) : CompC 23 (Sp.bare ⟨a, [t1]⟩) p q w0 := by
  intro w c top hbel hcp hlen ht0 ht1
  have HG : Hid (Sp.bare ⟨a, [t1]⟩ c = (Sp.comp t1 (⟨c.ns, c.told + 1⟩ : Sp.Cp)).1.add ⟨4, (Sp.comp t1 (⟨c.ns, c.told + 1⟩ : Sp.Cp)).2, 0, fun _ => false, (c.told + 1)⟩) := by
    show _ = _
    unfold Sp.bare Sp.bareEnd Sp.open1 Sp.numOf
    simp [hk, hT, Sp.comps_cons, Sp.comps_nil]
  rw [HG.out] at hlen ht1 ⊢
  clear HG
  have hlen1 : (Sp.comp t1 (⟨c.ns, c.told + 1⟩ : Sp.Cp)).1.ns.length ≤ 1000000 := by simp [Sp.Cp.add] at hlen; omega
  have ht2 : (Sp.comp t1 (⟨c.ns, c.told + 1⟩ : Sp.Cp)).1.told ≤ 1000000 := ht1
  have htl : c.told + 1 ≤ 1000001 := by have := Sp.comp_told t1 (⟨c.ns, c.told + 1⟩ : Sp.Cp); have e : (⟨c.ns, c.told + 1⟩ : Sp.Cp).told = c.told + 1 := rfl; omega
  have HK : Hid (NodeAt w q a l [q1]) := kid_facts hq hbel hqp hgl
  have HCP : Hid (CpAt w p c top) := hcp
  have HB0 : Hid (Bel p w0 w) := hbel
  have HIH : Hid (CompC 14 (Sp.comp t1) p q1 w0) := hih
  have hp := hcp.lt
  clear hcp hbel hih hq hlen ht1
  have q0 : w.cell? ⟨q, 0, none⟩ = some (.int .u8 40) := by have h := HK.out.pt.facts.1; rw [h]; simp [psOf, kindOf, hk]
  have pz := HK.out.pt.facts.fz
  have q261 : w.cell? ⟨q, 261, none⟩ = some (.bool true) := by rw [← hT]; exact HK.out.pt.facts.6
  obtain ⟨g, cap, rfl, hcap, hcap2, hcell⟩ : ∃ g cap, l = .slice (some ⟨g, 0, none⟩) 1 cap ∧ 1 ≤ cap ∧ cap ≤ maxLen ∧ w.cell? ⟨g, 0, none⟩ = some (ptr q1) := by
    rcases own_cells HK.out.own with ⟨_, h⟩ | ⟨g, cap, h1, h2, h3, h4⟩
    · cases h
    · exact ⟨g, cap, h1, h2, h3, h4 0 q1 rfl⟩
  have hgp : g < p := hgl g rfl
  unfold ptr at hcell
  have hq1 : w.cell? ⟨q, 1, none⟩ = some (.slice (some ⟨g, 0, none⟩) 1 cap) := HK.out.pt.facts.2
  have HKs : ∀ W : World, Bel p w W → (∀ o x, w.cell? ⟨q, o, none⟩ = some x → W.cell? ⟨q, o, none⟩ = some x) ∧ W.cell? ⟨g, 0, none⟩ = some (.pointer (some ⟨q1, 0, none⟩)) := fun W hW => ⟨fun o x hx => by
      have := hW.block q hqp (by omega); unfold World.cell? at hx ⊢; simpa [this] using hx, by
      have := hW.block g hgp (by omega); unfold World.cell? at hcell ⊢; simpa [this] using hcell⟩
  have HB1 : Hid (Bel p w (w.alloc (.cells (ndArr (Sp.nd 4 0 0)) 81))) := (Bel.refl p w).alloc hp _
  have HN1 : Hid (NdAt (w.alloc (.cells (ndArr (Sp.nd 4 0 0)) 81)) w.heap.size (grpN 0)) := NdAt.new w _
  have HC1 : Hid (CpBel (w.alloc (.cells (ndArr (Sp.nd 4 0 0)) 81)) p w.heap.size c top) := CpBel.new HCP.out _
  have r261 := (HKs _ HB1.out).1 261 _ q261
  have c2 := HC1.out.cells.1
  have cz := HC1.out.cells.2
  have HB2 : Hid (Bel p w ((w.alloc (.cells (ndArr (Sp.nd 4 0 0)) 81)).setCell ⟨p, 2, none⟩ (.int .i64 (c.told + 1)))) := HB1.out.setP HC1.out _
  have HC2 : Hid (CpBel ((w.alloc (.cells (ndArr (Sp.nd 4 0 0)) 81)).setCell ⟨p, 2, none⟩ (.int .i64 (c.told + 1))) p w.heap.size (⟨c.ns, c.told + 1⟩ : Sp.Cp) top) := HC1.out.told _
  have HN2 : Hid (NdAt ((w.alloc (.cells (ndArr (Sp.nd 4 0 0)) 81)).setCell ⟨p, 2, none⟩ (.int .i64 (c.told + 1))) w.heap.size (grpN 0)) := by show _ = _; rw [Below.heap_setCell _ _ _ _ (by simp; omega)]; exact HN1.out
  have d2 : World.cell? ((w.alloc (.cells (ndArr (Sp.nd 4 0 0)) 81)).setCell ⟨p, 2, none⟩ (.int .i64 (c.told + 1))) ⟨p, 2, none⟩ = some (.int .i64 (c.told + 1)) := HC2.out.cells.1
  have dz := HN2.out.fz
  have d259 : World.cell? ((w.alloc (.cells (ndArr (Sp.nd 4 0 0)) 81)).setCell ⟨p, 2, none⟩ (.int .i64 (c.told + 1))) ⟨w.heap.size, 259, none⟩ = some (.int .i64 0) := HN2.out.cellN
  have HB3 : Hid (Bel p w (((w.alloc (.cells (ndArr (Sp.nd 4 0 0)) 81)).setCell ⟨p, 2, none⟩ (.int .i64 (c.told + 1))).setCell ⟨w.heap.size, 259, none⟩ (.int .i64 (c.told + 1)))) := HB2.out.setCell (Nat.le_refl _) hp _ _
  have HC3 : Hid (CpBel (((w.alloc (.cells (ndArr (Sp.nd 4 0 0)) 81)).setCell ⟨p, 2, none⟩ (.int .i64 (c.told + 1))).setCell ⟨w.heap.size, 259, none⟩ (.int .i64 (c.told + 1))) p w.heap.size (⟨c.ns, c.told + 1⟩ : Sp.Cp) top) := HC2.out.setCell _ _
  have HN3 : Hid (NdAt (((w.alloc (.cells (ndArr (Sp.nd 4 0 0)) 81)).setCell ⟨p, 2, none⟩ (.int .i64 (c.told + 1))).setCell ⟨w.heap.size, 259, none⟩ (.int .i64 (c.told + 1))) w.heap.size (grpN (c.told + 1))) := HN2.out.setNum _
  have hsw : ((w.alloc (.cells (ndArr (Sp.nd 4 0 0)) 81)).setCell ⟨p, 2, none⟩ (.int .i64 (c.told + 1))) = ((w.setCell ⟨p, 2, none⟩ (.int .i64 (c.told + 1))).alloc (.cells (ndArr (Sp.nd 4 0 0)) 81)) := by
    exact World.setCell_alloc_past _ _ _ _ hp
  have hs3 : ((w.setCell ⟨p, 2, none⟩ (.int .i64 (c.told + 1))).alloc (.cells (ndArr (Sp.nd 4 0 0)) 81)).setCell ⟨w.heap.size, 259, none⟩ (.int .i64 (c.told + 1)) = ((w.setCell ⟨p, 2, none⟩ (.int .i64 (c.told + 1))).alloc (.cells ((ndArr (Sp.nd 4 0 0)).setIfInBounds 259 (.int .i64 (c.told + 1))) 81)) := World.setCell_alloc_at _ _ _ _ _ (by simp [World.setCell])
  rw [hsw] at HB2 HC2 HN2 d2 dz d259 HB3 HC3 HN3
  rw [hs3] at HB3 HC3 HN3
  clear hsw hs3
  have r1 := (HKs _ HB3.out).1 1 _ hq1
  have rg := (HKs _ HB3.out).2
  have hbn := run_bigNode1
  have hbs := run_bigStore w
  clear HKs
  go_enter Tryd.func23, Tryd.ntmps23
  go_wp2_with fail
  refine (HIH.out _ (⟨c.ns, c.told + 1⟩ : Sp.Cp) top (HB0.out.trans HB3.out) HC3.out.cp hlen1 (show 0 ≤ c.told + 1 by omega) ht2).mono ?_
  rintro e w4 ⟨rfl, hc4, hb4⟩
  have HN4 : NdAt w4 w.heap.size (grpN (c.told + 1)) := HN3.out.bel hb4 (by omega) (HC3.out.ownB _ (Nat.le_refl _))
  have HO4 : ownB w4 p ≠ some w.heap.size := hb4.own_ne HN3.out.lt (HC3.out.ownB _ (Nat.le_refl _))
  have n4z := HN4.fz
  have n4a : w4.cell? ⟨w.heap.size, 1, none⟩ = some (.int .i64 0) := HN4.cellA
  have HB4 : Hid (Bel p w w4) := HB3.out.trans hb4
  have HN5 : Hid (NdAt (w4.setCell ⟨w.heap.size, 1, none⟩ (.int .i64 (Sp.comp t1 (⟨c.ns, c.told + 1⟩ : Sp.Cp)).2)) w.heap.size ⟨4, (Sp.comp t1 (⟨c.ns, c.told + 1⟩ : Sp.Cp)).2, 0, fun _ => false, (c.told + 1)⟩) := HN4.setA (Sp.comp t1 (⟨c.ns, c.told + 1⟩ : Sp.Cp)).2
  have HC5 : Hid (CpAt (w4.setCell ⟨w.heap.size, 1, none⟩ (.int .i64 (Sp.comp t1 (⟨c.ns, c.told + 1⟩ : Sp.Cp)).2)) p (Sp.comp t1 (⟨c.ns, c.told + 1⟩ : Sp.Cp)).1 top) := hc4.setCell (by omega) HO4 _ _
  have HB5 : Hid (Bel p w (w4.setCell ⟨w.heap.size, 1, none⟩ (.int .i64 (Sp.comp t1 (⟨c.ns, c.told + 1⟩ : Sp.Cp)).2))) := HB4.out.setCell (Nat.le_refl _) hp _ _
  have hld := HN5.out.load0
  clear hc4 hb4 HN4 HO4 HB4 HB3 HC3 HN3 r1 rg hbn hbs r261 HB1 HC1 HN1
  go_wp2_with fail
  refine (add_cp p (Sp.comp t1 (⟨c.ns, c.told + 1⟩ : Sp.Cp)).1 top _ _ HC5.out hlen1).mono ?_
  rintro e w6 ⟨rfl, hc6, hb6⟩
  go_wp2_with fail
  go_ret
  exact ⟨rfl, hc6, HB5.out.trans hb6⟩
end Go.Proofs.YtcpfpnjkfahjcaaDoor
