import Derived.Test.YtcpfpnjkfahjcaaGreatDoorH11
import Derived.Test.YtcpfpnjkfahjcaaGreatDoorH02
import Derived.Test.YtcpfpnjkfahjcaaGreatDoorH13
import Derived.Test.YtcpfpnjkfahjcaaGreatDoorH01
import Derived.Deep.RegionWith
set_option linter.unusedSimpArgs false
set_option linter.unusedVariables false
namespace Go.Proofs.YtcpfpnjkfahjcaaGreatDoor
open Go.RowKit

theorem Sp.read_made {s : ByteArray} {t : Tr} {n : Int} (h : Sp.read s = .ok (t, n)) : Sp.Made [t] := by
  unfold Sp.read at h
  split at h
  · cases h
  · rename_i hz
    cases h1 : Sp.choice s 9 ⟨0, 0⟩ with
    | error f => simp [h1] at h
    | ok v =>
      obtain ⟨t', y⟩ := v
      simp only [h1] at h
      split at h
      · cases h
      · split at h
        · cases h
        · cases h; exact Sp.choice_makes s (by omega) 9 _ _ _ h1 (by simp) (by simp) (by simp)

/-- The program's pattern: its tree's root; how many groups are told. -/
def PpAt (w : World) (p root : Nat) (n : Int) : Prop := w.heap[p]? = some (.cells #[ptr root, .int .i64 n] 49 (0, 0))
theorem PpAt.new {w : World} {p root : Nat} {n : Int} {c : Array Value} (hc : c = #[ptr root, .int .i64 n]) (hp : p = w.heap.size) : PpAt (w.alloc (.cells c 49)) p root n := by
  subst hc hp; show (w.heap.push _)[w.heap.size]? = _; simp
def PCompileOut (s : ByteArray) (w : World) (e : Ending) (w' : World) : Prop := Upd [] w w' ∧ match Sp.read s with
  | .ok (t, n) => ∃ p root, e = .returned (.tuple #[.pointer (some ⟨p, 0, none⟩), .int .i64 0, .int .i64 0]) ∧ w.heap.size ≤ p ∧ PpAt w' p root n ∧ NodesAt w' (fun k => w.heap.size ≤ k ∧ k < w'.heap.size ∧ k ≠ p) [root] [t]
  | .error (e1, a1) => e = .returned (.tuple #[.pointer none, .int .i64 e1, .int .i64 a1])

set_option maxHeartbeats 800000 in
theorem sCompile_any (s : ByteArray) (w : World) :
    Calls Tryz.prog 6 #[.string s] w (PCompileOut s w) := by
  cases hr : Sp.read s with
  | error p =>
    obtain ⟨e1, a1⟩ := p
    have he : e1 ≠ 0 := Sp.read_code hr
    have hb : (e1 != 0) = true := by simpa using he
    have HR : Hid (Sp.read s = .error (e1, a1)) := hr
    clear hr he
    unfold PCompileOut
    rw [HR.out]
    go_enter Tryz.func6, Tryz.ntmps6
    go_wp2_with fail
    refine (pRead_any s _).mono ?_
    rw [HR.out]
    rintro e w1 ⟨hu1, rfl⟩
    have HU1 : Hid (Upd [] w w1) := hu1
    clear hu1
    go_wp2_with fail
    go_quiet (fail)
    go_wp2_with fail
    go_ret3
    exact ⟨by refine HU1.out.trans ?_; (repeat (first | exact Upd.refl _ _ | refine Upd.drewN ?_ | refine Upd.drew ?_ | refine Upd.setCell ?_ (by simp) _ | refine Upd.alloc ?_ _)), rfl⟩
  | ok p =>
    obtain ⟨t, n⟩ := p
    have HR : Hid (Sp.read s = .ok (t, n)) := hr
    clear hr
    unfold PCompileOut
    rw [HR.out]
    go_enter Tryz.func6, Tryz.ntmps6
    go_wp2_with fail
    refine (pRead_any s _).mono ?_
    rw [HR.out]
    rintro e w1 ⟨hu1, p, rfl, hn1⟩
    have HU1 : Hid (Upd [] w w1) := hu1
    have HN1 : Hid (NodesAt w1 (fun k => w.heap.size ≤ k ∧ k < w1.heap.size) [p] [t]) := NodesAt.mono _ _ hn1 (fun k h1 hk => ⟨h1, hk⟩)
    have hsz := hu1.size
    clear hu1 hn1
    unfold ptr
    go_wp2_with fail
    go_ret3
    refine ⟨by refine HU1.out.trans ?_; (repeat (first | exact Upd.refl _ _ | refine Upd.drewN ?_ | refine Upd.drew ?_ | refine Upd.setCell ?_ (by simp) _ | refine Upd.alloc ?_ _)), _, p, rfl, ?_, PpAt.new rfl ?_, ?_⟩
    · omega
    · simp
    · refine NodesAt.mono _ _ (NodesAt.same _ _ HN1.out (fun k hk _ => ?_)) (fun k hk _ => ⟨hk.1, by simp; omega, by omega⟩)
      rw [Below.heap_alloc _ _ _ (by simp; omega), Below.heap_alloc _ _ _ (by omega)]

theorem sGroups_any (p root : Nat) (n : Int) (w : World) (h : PpAt w p root n) :
    Calls Tryz.prog 11 #[.pointer (some ⟨p, 0, none⟩)] w (fun e w' => e = .returned (.tuple #[.int .i64 n, .int .i64 0]) ∧ w' = w) := by
  have c1 : w.cell? ⟨p, 1, none⟩ = some (.int .i64 n) := by unfold PpAt at h; simp [World.cell?, h]
  clear h
  go_enter Tryz.func11, Tryz.ntmps11
  go_wp2_with fail
  go_ret2
  exact ⟨rfl, rfl⟩
theorem sGroups_nil (w : World) :
    Calls Tryz.prog 11 #[.pointer none] w (fun e w' => e = .returned (.tuple #[.int .i64 0, .int .i64 1]) ∧ w' = w) := by
  go_enter Tryz.func11, Tryz.ntmps11
  go_wp2_with fail
  go_ret2
  exact ⟨rfl, rfl⟩
end Go.Proofs.YtcpfpnjkfahjcaaGreatDoor

set_option linter.unusedSimpArgs false
set_option linter.unusedVariables false
namespace Go.Proofs.YtcpfpnjkfahjcaaGreatDoor
open Go.RowKit

set_option maxHeartbeats 1000000 in
theorem write_core (a : Lab) (ks : List Tr) (ha : Sp.LabOK a) (hnum : a.kind = 3 → ks.length = 1 ∧ a.told = decide (a.num ≠ 0)) (hw : ∀ (k : Nat) t, ks[k]? = some t → WriteC t) (hql : ks.length ≤ 1000) : WriteC ⟨a, ks⟩ := by
  intro p b l w h hl hn
  rw [Sp.nodes_cons] at hl
  have hl' : l.length + 2321 * Sp.nodes ks + 2321 ≤ 7000000 := by simp [Sp.nodes] at hl; omega
  clear hl
  rw [NodesAt_cons] at hn
  obtain ⟨⟨q, lv, qs, h1, h2, h3, h4, h5, h6⟩, _⟩ := hn
  rcases h1 with ⟨hm, rfl⟩ | ⟨hm, hp, l1, ht1, ho1, hl1⟩
  · have e : Sp.text ⟨a, ks⟩ = Sp.bare1 a (Sp.texts (a.kind == 4) true ks) := by
      unfold Sp.text Sp.bareT Sp.cnt; rw [if_pos hm, List.append_nil]
    rw [e]
    exact pbare_any a ks ha hnum hw q b l _ lv qs w h hl' h2 h3 h4 h5 h6 hql
  · have e : Sp.text ⟨a, ks⟩ = Sp.bare1 a (Sp.texts (a.kind == 4) true ks) ++ cntMN a.min a.max := rfl
    obtain ⟨new, HNW⟩ : ∃ new, Hid (new = Sp.bare1 a (Sp.texts (a.kind == 4) true ks)) := ⟨_, (rfl : Sp.bare1 a (Sp.texts (a.kind == 4) true ks) = _)⟩
    rw [e, ← HNW.out]
    have hnew : new.length ≤ 2320 * Sp.nodes ks + 2310 := by
      rw [HNW.out]; have g1 := Sp.bare1_le a (Sp.texts (a.kind == 4) true ks); have g2 := Sp.texts_le (a.kind == 4) ks true; omega
    obtain ⟨g, cap, hlv, hgc⟩ : ∃ g cap, l1 = .slice (some ⟨g, 0, none⟩) 1 cap ∧ w.cell? ⟨g, 0, none⟩ = some (.pointer (some ⟨q, 0, none⟩)) := by
      rcases own_cells (qs := [q]) ho1 with ⟨_, hqs⟩ | ⟨g, cap, hl', _, _, hcell⟩
      · cases hqs
      · exact ⟨g, cap, hl', hcell 0 q rfl⟩
    have c0 : w.cell? ⟨p, 0, none⟩ = some (.int .i64 4) := ht1.facts.c0
    have c2 : w.cell? ⟨p, 2, none⟩ = some (.slice (some ⟨g, 0, none⟩) 1 cap) := by rw [← hlv]; exact ht1.facts.c2
    have C10 : Hid (w.cell? ⟨p, 10, none⟩ = some (.int .i64 a.min)) := ht1.facts.c10
    have C11 : Hid (w.cell? ⟨p, 11, none⟩ = some (.int .i64 a.max)) := ht1.facts.c11
    have HP : Hid (Calls Tryz.prog 17 #[.pointer (some ⟨b, 0, none⟩), .pointer (some ⟨q, 0, none⟩)] w (PrOut b l new w)) := by
      rw [HNW.out]; exact pbare_any a ks ha hnum hw q b l _ lv qs w h hl' h2 h3 h4 h5 h6 hql
    have hp' : p < b := hp
    have m0 : 0 ≤ a.min := hm
    have m1 := ha.min1
    have n0 := ha.max0
    have n1 := ha.max1
    clear h h2 h3 h4 h5 h6 ht1 ho1 hl1 hw hnum ha e hlv HNW hm hp
    go_enter Tryz.func17, Tryz.ntmps17
    go_wp2_with fail
    refine HP.out.mono ?_
    rintro e w1 ⟨rfl, hb1, hu1⟩
    have HB1 : Hid (BdAt w1 b (l ++ new)) := hb1
    have HU1 : Hid (Below b w w1) := hu1
    have d10 : w1.cell? ⟨p, 10, none⟩ = some (.int .i64 a.min) := (cell_same (hu1.block p hp') 10).trans C10.out
    have d11 : w1.cell? ⟨p, 11, none⟩ = some (.int .i64 a.max) := (cell_same (hu1.block p hp') 11).trans C11.out
    clear hb1 hu1 c0 c2 hgc
    go_wp2_with fail
    have hln : (l ++ new).length ≤ 8000000 := by simp; omega
    go_region_with (go_at_call 27; refine (prCount_any b (l ++ new) a.min a.max _ (by exact HB1.out) hln m0 m1 n0 n1).mono ?_; rintro e w2 ⟨rfl, hb2, hu2⟩; have HX2 : Hid (BdAt w2 b (l ++ (new ++ cntMN a.min a.max)) ∧ Below b w w2) := ⟨by rw [← List.append_assoc]; exact hb2, HU1.out.trans ⟨hu2.os, hu2.tape, hu2.output, hu2.size, hu2.block⟩⟩; clear hb2 hu2)
    all_goals go_wp2_with fail
    all_goals go_end0
    all_goals exact ⟨rfl, HX2.out.1, HX2.out.2⟩

theorem pfew_mem : ∀ (l : List Tr) (t : Tr), Few l → t ∈ l → t.kids.length ≤ 1000
  | [], t, _, h => by simp at h
  | u :: r, t, h, k => by
    rw [Sp.Few_cons] at h
    rcases List.mem_cons.1 k with rfl | k
    · exact h.1
    · exact pfew_mem r t h.2.2 k
theorem write_all : ∀ (ts : List Tr), Sp.TrsOK ts → Nums ts → Few ts → ∀ (i : Nat) t, ts[i]? = some t → t.kids.length ≤ 1000 → WriteC t
  | [], _, _, _, i, t, h, _ => by simp at h
  | ⟨a, ks⟩ :: r, h1, h2, h3, i, t, h, hl => by
    rw [Sp.TrsOK_cons] at h1
    rw [Nums_cons] at h2
    rw [Sp.Few_cons] at h3
    cases i with
    | zero =>
      simp at h; subst h
      exact write_core a ks h1.1 h2.1 (fun k t ht => write_all ks h1.2.1 h2.2.1 h3.2.1 k t ht (pfew_mem ks t h3.2.1 (List.mem_of_getElem? ht))) h3.1
    | succ i => simp at h; exact write_all r h1.2.2 h2.2.2 h3.2.2 i t h hl
end Go.Proofs.YtcpfpnjkfahjcaaGreatDoor

set_option linter.unusedSimpArgs false
set_option linter.unusedVariables false
namespace Go.Proofs.YtcpfpnjkfahjcaaGreatDoor
open Go.RowKit

theorem BdAt.new {w : World} {b : Nat} {c : Array Value} (hc : c = #[.pointer none, .slice none 0 0]) (hb : b = w.heap.size) : BdAt (w.alloc (.cells c 67)) b [] := by
  subst hc hb
  exact Or.inl ⟨Nat.le_refl _, .slice none 0 0, by show (w.heap.push _)[w.heap.size]? = _; simp, World.ownsRow_nil _ _ _ _, by simp [Value.ownBlock]⟩
theorem Upd.of_below {w w' : World} (h : Below w.heap.size w w') : Upd [] w w' := ⟨h.os, h.tape, h.output, h.size, fun k hk _ => h.block k hk⟩

set_option maxHeartbeats 800000 in
theorem pPrint_any (p : Nat) (t : Tr) (S : Nat → Prop) (w : World) (hn : NodesAt w S [p] [t]) (hw : WriteC t) (hc : Sp.nodes [t] ≤ 1000) :
    Calls Tryz.prog 13 #[.pointer (some ⟨p, 0, none⟩)] w fun e w' => e = .returned (.string (str (Sp.text t))) ∧ Upd [] w w' := by
  have HN : Hid (NodesAt (w.alloc (.cells #[.pointer none, .slice none 0 0] 67)) (fun k => k < w.heap.size) [p] [t]) :=
    NodesAt.same _ _ (NodesAt.mono _ _ hn (fun k _ hk => hk)) (fun k hk _ => Below.heap_alloc _ _ _ hk)
  have HB : Hid (BdAt (w.alloc (.cells #[.pointer none, .slice none 0 0] 67)) w.heap.size []) := BdAt.new rfl rfl
  have HW : Hid (WriteC t) := hw
  clear hn hw
  go_enter Tryz.func13, Tryz.ntmps13
  go_wp2_with fail
  refine (HW.out p w.heap.size [] _ (by exact HB.out) (by simp; omega) (by exact HN.out)).mono ?_
  rintro e w1 ⟨rfl, hb1, hu1⟩
  have HB1 : Hid (BdAt w1 w.heap.size (Sp.text t)) := hb1
  have HU1 : Hid (Below w.heap.size w w1) := ((Below.refl w.heap.size w).alloc (Nat.le_refl _) _).trans hu1
  clear hb1 hu1
  go_wp2_with fail
  refine (bstr_any w.heap.size (Sp.text t) _ (by exact HB1.out)).mono ?_
  rintro e w2 ⟨rfl, hu2⟩
  go_wp2_with fail
  go_ret
  exact ⟨rfl, Upd.of_below (HU1.out.trans hu2)⟩

set_option maxHeartbeats 800000 in
theorem sPrint_any (s : ByteArray) (w : World) :
    Calls Tryz.prog 5 #[.string s] w (PrintOut s w) := by
  cases hr : Sp.read s with
  | error p =>
    obtain ⟨e1, a1⟩ := p
    have he : e1 ≠ 0 := Sp.read_code hr
    have hb : (e1 != 0) = true := by simpa using he
    have HR : Hid (Sp.read s = .error (e1, a1)) := hr
    have HP : Hid (printR s = ([], e1, a1)) := by show _ = _; unfold printR; rw [hr]
    clear hr he
    unfold PrintOut
    rw [HP.out]
    go_enter Tryz.func5, Tryz.ntmps5
    go_wp2_with fail
    refine (pRead_any s _).mono ?_
    rw [HR.out]
    rintro e w1 ⟨hu1, rfl⟩
    have HU1 : Hid (Upd [] w w1) := hu1
    clear hu1
    go_wp2_with fail
    go_quiet (fail)
    go_wp2_with fail
    go_ret3
    exact ⟨rfl, by refine HU1.out.trans ?_; (repeat (first | exact Upd.refl _ _ | refine Upd.drewN ?_ | refine Upd.drew ?_ | refine Upd.setCell ?_ (by simp) _ | refine Upd.alloc ?_ _))⟩
  | ok p =>
    obtain ⟨t, n⟩ := p
    have HR : Hid (Sp.read s = .ok (t, n)) := hr
    have HP : Hid (printR s = (Sp.text t, 0, 0)) := by show _ = _; unfold printR; rw [hr]
    have hm := Sp.read_made hr
    have HW : Hid (WriteC t) := write_all [t] hm.1 (Sp.read_nums hr) hm.2 0 t rfl (Sp.Made.lab hm).2.2
    have hc : Sp.nodes [t] ≤ 1000 := by have := Sp.read_nods hr; omega
    clear hr hm
    unfold PrintOut
    rw [HP.out]
    obtain ⟨tx, HTX⟩ : ∃ tx, Hid (tx = Sp.text t) := ⟨_, (rfl : Sp.text t = _)⟩
    rw [← HTX.out]
    go_enter Tryz.func5, Tryz.ntmps5
    go_wp2_with fail
    refine (pRead_any s _).mono ?_
    rw [HR.out]
    rintro e w1 ⟨hu1, p, rfl, hn1⟩
    have HU1 : Hid (Upd [] w w1) := hu1
    have HN1 : Hid (NodesAt w1 (fun k => k < w1.heap.size) [p] [t]) := NodesAt.mono _ _ hn1 (fun k _ hk => hk)
    clear hu1 hn1
    unfold ptr
    go_wp2_with fail
    refine (pPrint_any p t _ _ (by exact NodesAt.same _ _ HN1.out (fun k hk _ => Below.heap_alloc _ _ _ hk)) HW.out hc).mono ?_
    rw [← HTX.out]
    rintro e w2 ⟨rfl, hu2⟩
    have HU2 : Hid (Upd [] w w2) := (HU1.out.alloc _).trans hu2
    clear hu2
    go_wp2_with fail
    go_ret3
    exact ⟨rfl, HU2.out⟩

end Go.Proofs.YtcpfpnjkfahjcaaGreatDoor
