import Derived.Test.YtadmlifmcdnhnaaDoorH12
import Derived.Deep.RegionLaw
import Derived.Maps.AppendAt
set_option linter.unusedSimpArgs false
set_option linter.unusedVariables false
namespace Go.Proofs.YtadmlifmcdnhnaaDoor
open Go.RowKit
namespace Sp

/-- How many nodes are made of so many bytes. -/
def Nods (f : At → Res (Tr × At)) (s : ByteArray) : Prop := ∀ x t y, f x = .ok (t, y) → x.i ≤ s.size → 0 ≤ x.t → x.t ≤ 9 → nodes [t] ≤ 2 * (y.i - x.i) + 2
theorem nodes_one (a : Lab) (ks : List Tr) : nodes [⟨a, ks⟩] = 1 + nodes ks := by rw [nodes, nodes]; rfl
theorem list_nods {s : ByteArray} {i j : Nat} {t : Tr} (h : list s i = .ok (t, j)) : nodes [t] = 1 := by
  unfold list at h
  simp only [] at h
  cases h1 : items s (s.size + 1) (fun _ => false) (if isAt s i 94 = true then i + 1 else i) with
  | error f => simp [h1] at h
  | ok v => obtain ⟨set, k⟩ := v; simp only [h1] at h; cases h; rw [nodes_one, nodes]
theorem head_far {s : ByteArray} {d : Nat} {x : At} {k : Nat} {y : At} (h : head s d x = .ok (k, y)) : x.i + 1 ≤ y.i := by
  unfold head at h
  by_cases h1 : 8 ≤ d
  · rw [if_pos h1] at h; cases h
  rw [if_neg h1] at h
  by_cases h2 : isAt s (x.i + 1) 63 = true
  · rw [if_pos h2] at h
    cases hn : need 58 s (x.i + 2) with
    | error f => rw [hn] at h; cases h
    | ok j => rw [hn] at h; cases h; have := need_ok hn; simp; omega
  rw [if_neg h2] at h
  by_cases h3 : 9 ≤ x.t
  · rw [if_pos h3] at h; cases h
  rw [if_neg h3] at h; cases h; simp
theorem atom_nods {s : ByteArray} {d : Nat} {sub : At → Res (Tr × At)} (hg : Good s sub) (hs : Nods sub s) {x : At} {t : Tr} {y : At} (h : atom sub s d x = .ok (t, y)) (h0 : 0 ≤ x.t) (h9 : x.t ≤ 9) : nodes [t] ≤ 2 * (y.i - x.i) := by
  have hgood := atom_good hg h h0 h9
  unfold atom at h
  by_cases c1 : isAt s x.i 40 = true
  · rw [if_pos c1] at h
    unfold group at h
    cases hh : head s d x with
    | error f => rw [hh] at h; cases h
    | ok v =>
      obtain ⟨k, z⟩ := v
      rw [hh] at h
      have a := head_ok hh (isAt_lt c1) h0 h9
      have a' := head_far hh
      cases hb : sub z with
      | error f => simp [hb] at h
      | ok v =>
        obtain ⟨t', u⟩ := v
        have b := hs z t' u hb a.2.1 a.2.2.1 a.2.2.2
        have b' := hg z t' u hb a.2.1 a.2.2.1 a.2.2.2
        cases hn : need 41 s u.i with
        | error f => simp [hb, hn] at h
        | ok j =>
          simp [hb, hn] at h; obtain ⟨rfl, rfl⟩ := h
          have := need_ok hn
          rw [nodes_one]; simp; omega
  rw [if_neg c1] at h
  by_cases c2 : isAt s x.i 91 = true
  · rw [if_pos c2] at h
    cases h1 : list s (x.i + 1) with
    | error f => simp [h1] at h
    | ok v => obtain ⟨t', j⟩ := v; simp [h1] at h; obtain ⟨rfl, rfl⟩ := h; rw [list_nods h1]; omega
  rw [if_neg c2] at h
  by_cases c3 : isAt s x.i 46 = true
  · rw [if_pos c3] at h; cases h; rw [nodes_one, nodes]; omega
  rw [if_neg c3] at h
  cases h1 : byteBut false s x.i with
  | error f => simp [h1] at h
  | ok v => obtain ⟨b, j⟩ := v; simp [h1] at h; obtain ⟨rfl, rfl⟩ := h; rw [nodes_one, nodes]; omega
theorem part_nods {s : ByteArray} {d : Nat} {sub : At → Res (Tr × At)} (hg : Good s sub) (hs : Nods sub s) {x : At} {t : Tr} {y : At} (h : part sub s d x = .ok (t, y)) (h0 : 0 ≤ x.t) (h9 : x.t ≤ 9) : nodes [t] ≤ 2 * (y.i - x.i) := by
  unfold part at h
  cases h1 : atom sub s d x with
  | error f => simp [h1] at h
  | ok v =>
    obtain ⟨t', z⟩ := v
    have g := atom_nods hg hs h1 h0 h9
    have g' := atom_good hg h1 h0 h9
    cases h2 : count s z.i with
    | error f => simp [h1, h2] at h
    | ok v =>
      obtain ⟨m, n, j⟩ := v
      simp [h1, h2] at h; obtain ⟨rfl, rfl⟩ := h
      have := count_in h2 g'.2.1
      obtain ⟨la, ks⟩ := t'
      rw [nodes_one] at g
      rw [nodes_one]; simp; omega
theorem parts_nods {s : ByteArray} {d : Nat} {sub : At → Res (Tr × At)} (hg : Good s sub) (hs : Nods sub s) : ∀ {n : Nat} {l : List Tr} {x : At} {l' : List Tr} {y : At}, parts sub s d n l x = .ok (l', y) → x.i ≤ s.size → 0 ≤ x.t → x.t ≤ 9 → nodes l' ≤ nodes l + 2 * (y.i - x.i)
  | 0, _, _, _, _, h, _, _, _ => by cases h
  | n + 1, l, x, l', y, h, hi, h0, h9 => by
    unfold parts at h
    split at h
    · cases h; omega
    · cases h1 : part sub s d x with
      | error f => simp [h1] at h
      | ok v =>
        obtain ⟨t', z⟩ := v
        have g := part_good hg h1 h0 h9
        have m := part_nods hg hs h1 h0 h9
        simp only [h1] at h
        have r := parts_nods hg hs h g.2.1 g.2.2.1 g.2.2.2
        have q := parts_good hg h g.2.1 g.2.2.1 g.2.2.2
        rw [nodes_append] at r
        omega
theorem row_nods {s : ByteArray} {d : Nat} {sub : At → Res (Tr × At)} (hg : Good s sub) (hs : Nods sub s) {x : At} {t : Tr} {y : At} (h : row sub s d x = .ok (t, y)) (hi : x.i ≤ s.size) (h0 : 0 ≤ x.t) (h9 : x.t ≤ 9) : nodes [t] ≤ 2 * (y.i - x.i) + 1 := by
  unfold row at h
  cases h1 : parts sub s d (s.size + 1) [] x with
  | error f => simp [h1] at h
  | ok v =>
    obtain ⟨l, z⟩ := v
    simp [h1] at h; obtain ⟨rfl, rfl⟩ := h
    have a := parts_nods hg hs h1 hi h0 h9
    rw [nodes_one]; simp [nodes] at a; omega
theorem rows_nods {s : ByteArray} {d : Nat} {sub : At → Res (Tr × At)} (hg : Good s sub) (hs : Nods sub s) : ∀ {n : Nat} {l : List Tr} {x : At} {l' : List Tr} {y : At}, rows sub s d n l x = .ok (l', y) → x.i ≤ s.size → 0 ≤ x.t → x.t ≤ 9 → nodes l' ≤ nodes l + 2 * (y.i - x.i) + 1
  | 0, _, _, _, _, h, _, _, _ => by cases h
  | n + 1, l, x, l', y, h, hi, h0, h9 => by
    unfold rows at h
    cases h1 : row sub s d x with
    | error f => simp [h1] at h
    | ok v =>
      obtain ⟨t', z⟩ := v
      have g := row_good hg x t' z h1 hi h0 h9
      have m := row_nods hg hs h1 hi h0 h9
      simp only [h1] at h
      split at h
      · rename_i q
        have q' := isAt_lt q
        have r := rows_nods hg hs h (by simp; omega) g.2.2.1 g.2.2.2
        have r' := rows_good hg h (by simp; omega) g.2.2.1 g.2.2.2
        rw [nodes_append] at r
        simp at r r'; omega
      · cases h; rw [nodes_append]; omega
theorem choice_nods (s : ByteArray) : ∀ k, Nods (choice s k) s
  | 0 => by intro x t y h; cases h
  | k + 1 => by
    intro x t y h hi h0 h9
    unfold choice at h
    cases h1 : rows (choice s k) s (8 - k) (s.size + 1) [] x with
    | error f => simp [h1] at h
    | ok v =>
      obtain ⟨l, z⟩ := v
      simp [h1] at h; obtain ⟨rfl, rfl⟩ := h
      have a := rows_nods (choice_good s k) (choice_nods s k) h1 hi h0 h9
      rw [nodes_one]; simp [nodes] at a; omega
theorem read_nods {s : ByteArray} {t : Tr} {n : Int} (h : read s = .ok (t, n)) : nodes [t] ≤ 402 := by
  unfold read at h
  split at h
  · cases h
  · cases h1 : choice s 9 ⟨0, 0⟩ with
    | error f => simp [h1] at h
    | ok v =>
      obtain ⟨t', y⟩ := v
      have a := choice_nods s 9 ⟨0, 0⟩ t' y h1 (Nat.zero_le _) (by decide) (by decide)
      have b := choice_good s 9 ⟨0, 0⟩ t' y h1 (Nat.zero_le _) (by decide) (by decide)
      simp only [h1] at h
      split at h
      · cases h
      · split at h
        · cases h
        · cases h; simp at a; omega
end Sp

theorem bare_core (p : Nat) (a : Lab) (ks : List Tr) (l : Value) (qs : List Nat) (w : World) (h : NodeAt w p a l qs) (ha : Sp.LabOK a) (hks : Sp.TrsOK ks) (hlen : qs.length = ks.length) (hn : Sp.nodes ks ≤ 1000) (hih : ∀ w', Upd [] w w' → ∀ (i q : Nat) (t : Tr), qs[i]? = some q → ks[i]? = some t → TextC q t w') : BareC p ⟨a, ks⟩ w := by
  rcases (by have := ha.kind; omega : a.kind = 0 ∨ a.kind = 1 ∨ a.kind = 2 ∨ a.kind = 3 ∨ a.kind = 4 ∨ a.kind = 5) with hk | hk | hk | hk | hk | hk
  · exact bare_byte p a ks l w h.pt ha hk
  · exact bare_dot p a ks l w h.pt hk
  · exact bare_list p a ks l w h.pt hk
  · cases ht : a.told with
    | true => exact bare_told p a ks l qs w h hks hlen hn hih hk ht
    | false => exact bare_quiet p a ks l qs w h hks hlen hn hih hk ht
  · exact bare_choice p a ks l qs w h hks hlen hn hih hk
  · exact bare_row p a ks l qs w h hks hlen hn hih hk

theorem text_all : ∀ (ts : List Tr) (S : Nat → Prop) (ps : List Nat) (w : World), PartsAt w S ps ts → Sp.TrsOK ts → Sp.nodes ts ≤ 1000 → ∀ (i p : Nat) (t : Tr), ps[i]? = some p → ts[i]? = some t → TextC p t w
  | [], _, _, _, _, _, _, i, _, _, _, h => by simp at h
  | ⟨a, ks⟩ :: r, S, [], w, h, _, _, _, _, _, _, _ => (PartsAt_no1 h).elim
  | ⟨a, ks⟩ :: r, S, p :: ps, w, h, ho, hn, 0, q, t, h1, h2 => by
    simp at h1 h2; subst h1; subst h2
    rw [PartsAt_cons] at h
    rw [Sp.TrsOK] at ho
    rw [Sp.nodes] at hn
    obtain ⟨_, ⟨l, qs, h3, h4, _, h5⟩, _⟩ := h
    have hl := PartsAt.length _ _ h5
    refine text_core p a ks l w h3 ho.1 (bare_core p a ks l qs w ⟨h3, h4⟩ ho.1 ho.2.1 hl (by omega) (fun w' hu i q t hq ht => ?_)) ?_
    · exact text_all ks _ qs w' (PartsAt.same _ _ _ h5 (fun k _ hk => hu.block k hk (by simp))) ho.2.1 (by omega) i q t hq ht
    · have := bareT_le ⟨a, ks⟩; simp at this; omega
  | ⟨a, ks⟩ :: r, S, p :: ps, w, h, ho, hn, i + 1, q, t, h1, h2 => by
    rw [PartsAt_cons] at h
    rw [Sp.TrsOK] at ho
    rw [Sp.nodes] at hn
    exact text_all r S ps w h.2.2 ho.2.2 (by omega) i q t (by simpa using h1) (by simpa using h2)

theorem tup3 {a b c x y z : Value} (h : a = x) (k : b = y) (l : c = z) : Ending.returned (.tuple #[a, b, c]) = .returned (.tuple #[x, y, z]) := by rw [h, k, l]
/-- What Print answers. -/
def printR (s : ByteArray) : List UInt8 × Int × Int := match Sp.read s with
  | .ok (t, _) => (Sp.text t, 0, 0)
  | .error (e, a) => ([], e, a)

def PrintOut (s : ByteArray) (w : World) (e : Ending) (w' : World) : Prop := e = .returned (.tuple #[.string (str (printR s).1), .int .i64 (printR s).2.1, .int .i64 (printR s).2.2]) ∧ Upd [] w w'

set_option maxHeartbeats 400000 in
theorem refPrint (s : ByteArray) (w : World) :
    Calls Tryd.prog 5 #[.string s] w (PrintOut s w) := by
  go_enter Tryd.func5, Tryd.ntmps5
  go_wp2_with fail
  refine (read_any s _).mono ?_
  rintro e w2 ⟨hu2, hq2⟩
  have HU2 : Hid (Upd [] w w2) := hu2
  clear hu2
  revert hq2
  cases hr : Sp.read s
  case error f =>
    obtain ⟨e1, a1⟩ := f
    rintro ⟨he1, pv, r, x, rfl, hf, rfl, rfl, _⟩
    have HR : Hid (printR s = ([], x.e, x.a)) := by show _ = _; unfold printR; rw [hr]
    have hb : (x.e != 0) = true := by simpa using he1
    obtain ⟨c0, c1, c2, c3, c4, c5, fz⟩ := hf.facts
    clear he1 hr hf
    unfold ptr
    go_wp2_with fail
    go_quiet (fail)
    go_wp2_with fail
    go_ret3
    exact ⟨tup3 (by rw [HR.out]; rfl) (by rw [HR.out]; rfl) (by rw [HR.out]; rfl), HU2.out.drewN⟩
  case ok f =>
    obtain ⟨t, n⟩ := f
    rintro ⟨p, r, x, rfl, hp, hm, hf, he, hn, _⟩
    have HR : Hid (printR s = (Sp.text t, 0, 0)) := by show _ = _; unfold printR; rw [hr]
    have hb : (x.e != 0) = false := by simp [he]
    have HT : Hid (TextC p t w2) := text_all [t] _ [p] w2 hp hm.1 (by have := Sp.read_nods hr; omega) 0 p t rfl rfl
    obtain ⟨c0, c1, c2, c3, c4, c5, fz⟩ := hf.facts
    clear he hr hf hp hm hn
    unfold ptr
    go_wp2_with fail
    have hcall := HT.out
    unfold TextC at hcall
    refine hcall.mono ?_
    clear hcall
    rintro e w3 ⟨rfl, hu3⟩
    go_wp2_with fail
    go_ret3
    exact ⟨tup3 (by rw [HR.out]; rfl) (by rw [HR.out]; rfl) (by rw [HR.out]; rfl), HU2.out.trans hu3⟩
end Go.Proofs.YtadmlifmcdnhnaaDoor

set_option linter.unusedSimpArgs false
set_option linter.unusedVariables false
namespace Go.Proofs.YtadmlifmcdnhnaaDoor
open Go.RowKit

section
variable {P : Program}
/-- An append to a row of the call's own, as one step of a region that draws. -/
theorem step_append_own {ops : Array Oper} {o : Oper} {a : Act} {w : World} {K : Act → World → Prop} {Q : Exit → Act → World → Prop} {E : Prop} (hgd : o.guard = none) (s x : Operand) (t : TypeId)
    (ho : o.op = .call { callee := .builtin .append, args := #[s, x], argTypes := #[t, t] })
    (base : Nat) (e : TypeId) (i : TypeInfo) (z : Value) (size bytes : Nat) (ht : P.underlying t = some (.slice e)) (hi : P.info? e = some i) (hz : i.zero = some z)
    (hsize : i.size = size) (hby : i.bytes = bytes) (hzs : z.cells.size = size) (hsz : 0 < size)
    (v : Value) (n : Nat) (xs : List Value) (hs : a.eval s = v) (hown : w.ownsRow base e size v n xs)
    (ad : Addr) (m c : Nat) (news : List Value) (hx : a.eval x = .slice (some ad) m c) (hl : news.length = m * size) (hnews : ∀ j u, news[j]? = some u → w.cell? (ad.add j) = some u) (h1 : ∀ u ∈ news, u.oneCell' = true)
    (h63 : n + m ≤ maxLen) (hbytes : (n + m) * bytes ≤ 140737488355328) (hbase : base ≤ w.heap.size)
    (h : ∀ v' w', w'.ownsRow base e size v' (n + m) (xs ++ news) → w.grownBy w' v.ownBlock → (v' = .slice none 0 0 ↔ v = .slice none 0 0 ∧ m = 0) → (v'.ownBlock = v.ownBlock ∨ v'.ownBlock = some w.heap.size) → K (a.put o.dst v') w') :
    if Region.wanted o (yielded ops a.tmps) = true then Oper.wp P o a w K Q else E := by
  have hw : Region.wanted o (yielded ops a.tmps) = true := by simp [Region.wanted, hgd]
  rw [if_pos hw]
  obtain ⟨v', w', hr, h2, h3, h4, h5⟩ := run_append_own_at (P := P) w base t o.type e i z size bytes ht hi hz hsize hby hzs hsz v n xs hown ad m c news hl hnews h1 h63 hbytes hbase
  unfold Oper.wp
  simp only [execOp, ho, resolve, invoke, builtin, Sem.run_bind, Sem.run_pure, Result.andThen_ok, List.map_toArray, List.map_cons, List.map_nil, hs, hx, hr]
  exact h v' w' h2 h3 h4 h5
end

/-- The document's pattern, as it grows: its nodes' cells, one behind the other. -/
structure PatAt (w : World) (p : Nat) (v : Value) (n : Nat) (xs : List Value) (top told : Int) : Prop where
  block : w.heap[p]? = some (.cells #[v, .int .i64 top, .int .i64 told] 52 (0, 0))
  own : w.ownsRow (p + 1) 81 260 v n xs

theorem infoNode : ∃ i z, Tryd.prog.info? 81 = some i ∧ i.zero = some z ∧ i.size = 260 ∧ i.bytes = 288 ∧ z.cells.size = 260 := by
  have h : (match Tryd.prog.info? 81 with | some i => (match i.zero with | some z => (i.size == 260 && i.bytes == 288 && z.cells.size == 260) | none => false) | none => false) = true := by kernel_rfl
  cases hi : Tryd.prog.info? 81 with
  | none => rw [hi] at h; cases h
  | some i =>
    rw [hi] at h
    cases hz : i.zero with
    | none => simp [hz] at h
    | some z => simp [hz] at h; exact ⟨i, z, rfl, hz, h.1.1, h.1.2, h.2⟩

/-- The cells of a block. -/
def nodeOf (w : World) (b : Nat) : Array Value := match w.heap[b]? with | some (.cells c _ _) => c | _ => #[]
def nodeOK (w : World) (b : Nat) : Bool := match w.heap[b]? with | some (.cells c _ _) => c.size == 260 | _ => false
theorem nodeOK_drewN (w : World) (b k : Nat) : nodeOK (w.drewN k) b = nodeOK w b := rfl
theorem nodeOf_drewN (w : World) (b k : Nat) : nodeOf (w.drewN k) b = nodeOf w b := rfl
theorem load_node (w : World) (b : Nat) (h : nodeOK w b = true) : (loadVar 81 ⟨b, 0, none⟩).run Tryd.prog w = .ok (.agg (nodeOf w b)) w := by
  obtain ⟨it, z, hi1, hi2, hi3, hi4, hi5⟩ := infoNode
  unfold nodeOK at h
  unfold nodeOf
  cases hb : w.heap[b]? with
  | none => rw [hb] at h; cases h
  | some o =>
    rw [hb] at h
    cases o with
    | cells c t fr => exact run_loadVar_row (P := Tryd.prog) w b t 81 c fr _ hb Tryd.underlying81 rfl (by rw [hi1]; simp at h ⊢; omega)
    | _ => cases h
/-- A load of a whole node, kept closed. -/
def bigLoad (v : Value) : Sem Value := Instr.loadAt 81 v
theorem loadAt_node (v : Value) : Instr.loadAt 81 v = bigLoad v := rfl
theorem run_bigLoad (w : World) (b : Nat) (h : nodeOK w b = true) : (bigLoad (.pointer (some ⟨b, 0, none⟩))).run Tryd.prog w = .ok (.agg (nodeOf w b)) w := by
  unfold bigLoad
  simp only [Instr.loadAt, Instr.sureAddr, Sem.run_bind, Sem.run_pure, Result.andThen_ok, load_node w b h]
attribute [local go_sem ↓] loadAt_node

theorem splice_list : ∀ (l : List Value) (k : Nat) (Z : Array Value), ((l.zipIdx k).foldl (fun cs (p : Value × Nat) => cs.setIfInBounds (0 + p.2) p.1) Z).size = Z.size ∧ ∀ i, ((l.zipIdx k).foldl (fun cs (p : Value × Nat) => cs.setIfInBounds (0 + p.2) p.1) Z)[i]? = if k ≤ i ∧ i < k + l.length ∧ i < Z.size then l[i - k]? else Z[i]?
  | [], k, Z => by simp; intro i; omega
  | x :: r, k, Z => by
    have ih := splice_list r (k + 1) (Z.setIfInBounds (0 + k) x)
    simp only [List.zipIdx_cons, List.foldl_cons]
    refine ⟨by rw [ih.1]; simp, fun i => ?_⟩
    rw [ih.2 i]
    simp only [Array.size_setIfInBounds, List.length_cons, Nat.zero_add]
    by_cases h1 : k + 1 ≤ i ∧ i < k + 1 + r.length ∧ i < Z.size
    · rw [if_pos h1, if_pos (by omega)]
      rw [show i - k = (i - (k + 1)) + 1 by omega, List.getElem?_cons_succ]
    · rw [if_neg h1]
      by_cases h2 : i = k
      · subst h2
        by_cases h3 : i < Z.size
        · rw [if_pos (by omega), Array.getElem?_setIfInBounds_self_of_lt h3]; simp
        · rw [if_neg (by omega), Array.getElem?_eq_none (by simp; omega), Array.getElem?_eq_none (by omega)]
      · rw [if_neg (by omega), Array.getElem?_setIfInBounds_ne (by omega)]
theorem splice_all (c Z : Array Value) (h : Z.size = c.size) : c.zipIdx.foldl (fun cs (p : Value × Nat) => cs.setIfInBounds (0 + p.2) p.1) Z = c := by
  rw [← Array.foldl_toList, Array.toList_zipIdx]
  have q := splice_list c.toList 0 Z
  apply Array.ext_getElem?
  intro i
  rw [q.2 i]
  by_cases hi : i < c.size
  · rw [if_pos (by simp; omega)]; simp
  · rw [if_neg (by simp; omega), Array.getElem?_eq_none (by omega), Array.getElem?_eq_none (by omega)]

/-- A slice of one node, kept closed. -/
def bigBuild (ps : Array (Nat × Value)) : Sem Value := Instr.buildSlice 44 1 ps
theorem build_node (ps : Array (Nat × Value)) : Instr.buildSlice 44 1 ps = bigBuild ps := rfl
theorem run_bigBuild (w : World) (c : Array Value) (hc : c.size = 260) : (bigBuild #[(0, .agg c)]).run Tryd.prog w = .ok (.slice (some ⟨w.heap.size, 0, none⟩) 1 1) (w.alloc (.cells c 81)) := by
  obtain ⟨it, z, hi1, hi2, hi3, hi4, hi5⟩ := infoNode
  have hsp : ∀ Z : Array Value, Z.size = 260 → c.zipIdx.foldl (fun cs (p : Value × Nat) => cs.setIfInBounds (0 + p.2) p.1) Z = c := fun Z hZ => splice_all c Z (by omega)
  have e1 : ¬ (1 * it.size > 2 ^ 24) := by rw [hi3]; decide
  have e1' : ¬ (2 ^ 24 < it.size) := by rw [hi3]; decide
  have e2 : ¬ (1 * it.size = 0) := by rw [hi3]; decide
  have e2' : ¬ (it.size = 0) := by rw [hi3]; decide
  have efill : ∀ Z : Array Value, Z.size = it.size → Instr.fill (fun i => some (i * it.size, it.size)) Z [(0, .agg c)] = some c := fun Z hZ => by
    unfold Instr.fill
    have hcc : (Value.agg c).cells = c := rfl
    simp only [hcc, Nat.zero_mul]
    rw [if_neg (by simp; omega)]
    unfold Instr.fill
    exact congrArg some (hsp Z (by omega))
  have efill' := efill (Array.map (fun x => z.cells[x % z.cells.size]!) (Array.range (1 * it.size))) (by simp)
  clear efill hsp
  unfold bigBuild Instr.buildSlice
  simp [Sem.run_bind, run_underlying Tryd.underlying44, sizeOf, typeInfo, hi1, e1', e2', zeroValue, hi2]
  simp at efill'
  rw [efill']
  rfl
attribute [local go_sem ↓] build_node

theorem newsC (c : Array Value) (W : World) : ∀ j u, c.toList[j]? = some u → (W.alloc (.cells c 81)).cell? ((⟨W.heap.size, 0, none⟩ : Addr).add j) = some u := by
  intro j u hj
  have hadd : (⟨W.heap.size, 0, none⟩ : Addr).add j = ⟨W.heap.size, j, none⟩ := by unfold Addr.add; split <;> simp_all
  rw [hadd]
  simpa using hj

theorem own_form' {w : World} {b : Nat} {e : TypeId} {v : Value} {n k : Nat} {xs : List Value} (h : w.ownsRow b e k v (n + 1) xs) : ∃ g cap, v = .slice (some ⟨g, 0, none⟩) (n + 1) cap := by
  rcases h.2 with ⟨_, q⟩ | ⟨g, cap, _, hv, _⟩
  · omega
  · exact ⟨g, cap, hv⟩
/-- What stands behind the append. -/
theorem afterAdd {W w1 w5 : World} {p : Nat} {v v' : Value} {n : Nat} {xs : List Value} {top told : Int} {c : Array Value} (hg : W.grownBy w5 v.ownBlock) (h : PatAt w1 p v n xs top told)
    (hh : W.heap = w1.heap.push (.cells c 81 (0, 0))) (ho : W.os = w1.os) (ht : W.tape = w1.tape) (hu : W.output = w1.output)
    (hown : w5.ownsRow (p + 1) 81 260 v' (n + 1) (xs ++ c.toList)) (hloc : v'.ownBlock = v.ownBlock ∨ v'.ownBlock = some W.heap.size) :
    ∃ g5 cap5, v' = .slice (some ⟨g5, 0, none⟩) (n + 1) cap5 ∧ w5.cell? ⟨p, 0, none⟩ = some v ∧ (∀ o, w5.frozen? ⟨p, o, none⟩ = false) ∧ Hid (∃ u, u = v'.ownBlock ∧ w5.heap[p]? = some (.cells #[v, .int .i64 top, .int .i64 told] 52 (0, 0)) ∧ Upd v.ownBlock.toList w1 w5 ∧ (u = v.ownBlock ∨ u = some (w1.heap.size + 1)) ∧ w5.ownsRow (p + 1) 81 260 v' (n + 1) (xs ++ c.toList)) := by
  obtain ⟨g5, cap5, hv⟩ := own_form' hown
  have hp := lt_of_heap h.block
  have hs : W.heap.size = w1.heap.size + 1 := by rw [hh]; simp
  have hb : w5.heap[p]? = some (.cells #[v, .int .i64 top, .int .i64 told] 52 (0, 0)) := by
    rw [hg.block p (by omega) (fun e => by have := (ownBlock_lt h.own e.symm).2; omega), hh, Array.getElem?_push_lt hp, ← Array.getElem?_eq_getElem hp]
    exact h.block
  have hW : Upd v.ownBlock.toList w1 W := ⟨ho, ht, hu, by omega, fun k hk _ => by rw [hh, Array.getElem?_push_lt hk, ← Array.getElem?_eq_getElem hk]⟩
  refine ⟨g5, cap5, hv, by simp [World.cell?, hb], fun o => by simp [World.frozen?, hb], _, rfl, hb, hW.trans (Upd.of_grown hg), ?_, hown⟩
  rw [hs] at hloc; exact hloc

/-- What 'add' leaves. -/
def AddOut (p : Nat) (v : Value) (n : Nat) (xs : List Value) (top told : Int) (c : Array Value) (w : World) (e : Ending) (w' : World) : Prop :=
  e = .returned (.int .i64 n) ∧ ∃ v', PatAt w' p v' (n + 1) (xs ++ c.toList) top told ∧ Upd (p :: v.ownBlock.toList) w w' ∧ (v'.ownBlock = v.ownBlock ∨ ∃ g, v'.ownBlock = some g ∧ w.heap.size ≤ g)

theorem addEnd {w w1 w5 : World} {p : Nat} {v v' : Value} {n : Nat} {xs : List Value} {top told : Int} {c : Array Value} {W : World} (hW : ∃ k, W = (w5.setCell ⟨p, 0, none⟩ v').drewN k) (h0 : Upd [] w w1)
    (h : ∃ u, u = v'.ownBlock ∧ w5.heap[p]? = some (.cells #[v, .int .i64 top, .int .i64 told] 52 (0, 0)) ∧ Upd v.ownBlock.toList w1 w5 ∧ (u = v.ownBlock ∨ u = some (w1.heap.size + 1)) ∧ w5.ownsRow (p + 1) 81 260 v' (n + 1) (xs ++ c.toList)) :
    AddOut p v n xs top told c w (.returned (.int .i64 n)) W := by
  obtain ⟨k, rfl⟩ := hW
  obtain ⟨u, hu, hb, hU, hl, ho⟩ := h
  have hv : ∀ g, v'.ownBlock = some g → p < g := fun g hg => by have := (ownBlock_lt ho hg).2; omega
  refine ⟨rfl, v', ⟨?_, ?_⟩, ?_, ?_⟩
  · have := heap_set hb 0 v'
    simpa [World.drewN] using this
  · exact ownsRow_same (w := w5) ho (fun g hg _ => Below.heap_setCell _ _ _ _ (by have := hv g hg; simp; omega))
  · exact (((h0.mono (by simp)).trans (hU.mono (by simp +contextual))).setCell (p := ⟨p, 0, none⟩) (by simp) _).drewN
  · rcases hl with q | q
    · exact Or.inl (hu ▸ q)
    · exact Or.inr ⟨_, hu ▸ q, by have := h0.size; omega⟩

set_option maxRecDepth 100000 in
set_option maxHeartbeats 1000000 in
theorem add_any (p : Nat) (v : Value) (n : Nat) (xs : List Value) (top told : Int) (c : Array Value) (hc : c.size = 260) (hone : ∀ u ∈ c.toList, u.oneCell' = true) (hn : n ≤ 1000000) (w : World) (h : PatAt w p v n xs top told) :
    Calls Tryd.prog 24 #[.pointer (some ⟨p, 0, none⟩), .agg c] w (AddOut p v n xs top told c w) := by
  obtain ⟨it, z, hi1, hi2, hi3, hi4, hi5⟩ := infoNode
  have hp : p < w.heap.size := lt_of_heap h.block
  have hc0 : w.cell? ⟨p, 0, none⟩ = some v := by simp [World.cell?, h.block]
  have hfz : ∀ o, w.frozen? ⟨p, o, none⟩ = false := fun o => by simp [World.frozen?, h.block]
  have HH : Hid (PatAt w p v n xs top told) := h
  have HI : Hid (Tryd.prog.info? 81 = some it ∧ it.zero = some z ∧ it.size = 260 ∧ it.bytes = 288 ∧ z.cells.size = 260) := ⟨hi1, hi2, hi3, hi4, hi5⟩
  clear h hi1 hi2 hi3 hi4 hi5
  go_enter Tryd.func24, Tryd.ntmps24
  go_wp2_with fail
  have HU0 : Hid (Upd [] w (w.alloc (.cells c 81))) := (Upd.refl _ _).alloc _
  have HH1 : Hid (PatAt (w.alloc (.cells c 81)) p v n xs top told) := ⟨by rw [Below.heap_alloc _ _ _ hp]; exact HH.out.block, HH.out.own.alloc _⟩
  have hb1 : (w.alloc (.cells c 81)).heap[w.heap.size]? = some (.cells c 81 (0, 0)) := by show (w.heap.push _)[w.heap.size]? = _; simp
  have HSZ : Hid ((w.alloc (.cells c 81)).heap.size = w.heap.size + 1) := by show _ = _; simp
  generalize (w.alloc (.cells c 81)) = w1 at *
  have hcp : w1.cell? ⟨p, 0, none⟩ = some v := by simp [World.cell?, HH1.out.block]
  have hfp : ∀ o, w1.frozen? ⟨p, o, none⟩ = false := fun o => by simp [World.frozen?, HH1.out.block]
  have hcp2 : (w1.alloc (Obj.cells c 81)).cell? ⟨p, 0, none⟩ = some v := by
    have hlt : p < w1.heap.size := lt_of_heap HH1.out.block
    simp only [World.cell?, Below.heap_alloc _ _ _ hlt, HH1.out.block]; rfl
  have hno : nodeOf w1 w.heap.size = c := by unfold nodeOf; rw [hb1]
  have hok : nodeOK w1 w.heap.size = true := by unfold nodeOK; rw [hb1]; simpa using hc
  have hl1 : ∀ k, (bigLoad (.pointer (some ⟨w.heap.size, 0, none⟩))).run Tryd.prog (w1.drewN k) = .ok (.agg c) (w1.drewN k) := fun k => by rw [run_bigLoad _ _ (by rw [nodeOK_drewN]; exact hok), nodeOf_drewN, hno]
  have hl2 : (bigLoad (.pointer (some ⟨w.heap.size, 0, none⟩))).run Tryd.prog w1.drew = .ok (.agg c) w1.drew := hl1 1
  clear hno hok
  have hbld := fun (w : World) => run_bigBuild w c hc
  clear hc0 hfz hb1
  have H63 : Hid (n + 1 ≤ maxLen) := by unfold Hid maxLen; omega
  have HBY : Hid ((n + 1) * 288 ≤ 140737488355328) := by unfold Hid; omega
  have hp1 : p + 1 ≤ w1.heap.size := by have := HSZ.out; omega
  go_region_law (refine step_append_own rfl _ _ 44 rfl (p + 1) 81 it z 260 288 Tryd.underlying44 HI.out.1 HI.out.2.1 HI.out.2.2.1 HI.out.2.2.2.1 HI.out.2.2.2.2 (by decide) v n xs (by simp [Act.eval, Act.put]) (by exact HH1.out.own.alloc _) ⟨w1.heap.size, 0, none⟩ 1 1 c.toList (by simp [Act.eval, Act.put]) (by simp [hc]) (by exact newsC c w1) hone H63.out HBY.out (by simp; omega) ?_; intro v' w5 hown' hgrow hnil hloc; obtain ⟨g5, cap5, hv5, hc5, hf5, HX5⟩ := afterAdd hgrow HH1.out rfl rfl rfl rfl hown' hloc; subst hv5; clear hown' hgrow hnil hloc)
  all_goals
    go_wp2_with fail
    go_ret
    exact addEnd ⟨0, rfl⟩ HU0.out HX5.out
end Go.Proofs.YtadmlifmcdnhnaaDoor

/- The document's matcher as a row of nodes: no program is named here. -/
set_option linter.unusedSimpArgs false
set_option linter.unusedVariables false
namespace Go.Proofs.YtadmlifmcdnhnaaDoor
namespace Sp

/-- A node: its kind (0 nothing, 1 a byte of a list, 2 a pair, 3 one of two, 4 a group, 5 a turn or none, 6 turns), its parts, the bytes, the group's number. -/
structure Nd where
  kind : Int
  a : Int
  b : Int
  set : Nat → Bool
  num : Int
def nd (k a b : Int) : Nd := ⟨k, a, b, fun _ => false, 0⟩

/-- The nodes so far, and how many groups are told. -/
structure Cp where
  ns : List Nd
  told : Int
def Cp.add (c : Cp) (n : Nd) : Cp × Int := (⟨c.ns ++ [n], c.told⟩, c.ns.length)

/-- So many nodes more, each with the one ahead of it behind it. -/
def reps (k a : Int) : Nat → Cp × Int → Cp × Int
  | 0, x => x
  | n + 1, x => reps k a n (x.1.add (nd k a x.2))
theorem reps_succ (k a : Int) : ∀ (n : Nat) (x : Cp × Int), reps k a (n + 1) x = (reps k a n x).1.add (nd k a (reps k a n x).2)
  | 0, _ => rfl
  | n + 1, x => by rw [reps, reps_succ k a n]; rfl
theorem reps_len (k a : Int) : ∀ (n : Nat) (x : Cp × Int), (reps k a n x).1.ns.length = x.1.ns.length + n
  | 0, _ => rfl
  | n + 1, x => by rw [reps, reps_len k a n]; simp [Cp.add]; omega
theorem reps_told (k a : Int) : ∀ (n : Nat) (x : Cp × Int), (reps k a n x).1.told = x.1.told
  | 0, _ => rfl
  | n + 1, x => by rw [reps, reps_told k a n]; rfl

/-- A part's count unfolded. -/
def wrap0 (a : Lab) (x : Cp × Int) : Cp × Int := if a.max < 0 then x.1.add (nd 6 x.2 0) else reps 5 x.2 (a.max - a.min).toNat (x.1.add (nd 0 0 0))
def wrap (a : Lab) (x : Cp × Int) : Cp × Int := if a.min < 0 then x else reps 2 x.2 a.min.toNat (wrap0 a x)

/-- One of several. -/
def pick : List Int → Cp × Int → Cp × Int
  | [], x => x
  | k :: r, x => pick r (if x.2 < 0 then (x.1, k) else x.1.add (nd 3 k x.2))
/-- One behind the other. -/
def chain : List Int → Cp × Int → Cp × Int
  | [], x => x
  | k :: r, x => chain r (x.1.add (nd 2 k x.2))

def open1 (a : Lab) (c : Cp) : Cp := if a.kind = 3 ∧ a.told = true then ⟨c.ns, c.told + 1⟩ else c
def numOf (a : Lab) (c : Cp) : Int := if a.told = true then c.told + 1 else 0
/-- What a part without its count becomes: c ahead of it, x behind its parts. -/
def bareEnd (a : Lab) (c : Cp) (x : Cp × List Int) : Cp × Int :=
  if a.kind ≤ 2 then c.add ⟨1, 0, 0, fun k => a.set k != a.not, 0⟩
  else if a.kind = 3 then x.1.add ⟨4, x.2.headD 0, 0, fun _ => false, numOf a c⟩
  else if a.kind = 4 then pick x.2.reverse (x.1, -1)
  else chain x.2.reverse (x.1.add (nd 0 0 0))

def comps : List Tr → Cp → Cp × List Int
  | [], c => (c, [])
  | ⟨a, ks⟩ :: r, c => 
    ((comps r (wrap a (bareEnd a c (comps ks (open1 a c)))).1).1, (wrap a (bareEnd a c (comps ks (open1 a c)))).2 :: (comps r (wrap a (bareEnd a c (comps ks (open1 a c)))).1).2)
def bare (t : Tr) (c : Cp) : Cp × Int := bareEnd t.lab c (comps t.kids (open1 t.lab c))
def comp (t : Tr) (c : Cp) : Cp × Int := wrap t.lab (bare t c)
theorem comps_nil (c : Cp) : comps [] c = (c, []) := by rw [comps]
theorem comps_cons (t : Tr) (r : List Tr) (c : Cp) : comps (t :: r) c = ((comps r (comp t c).1).1, (comp t c).2 :: (comps r (comp t c).1).2) := by
  obtain ⟨a, ks⟩ := t; rw [comps]; rfl
theorem comps_snoc (t : Tr) : ∀ (l : List Tr) (c : Cp), comps (l ++ [t]) c = ((comp t (comps l c).1).1, (comps l c).2 ++ [(comp t (comps l c).1).2])
  | [], c => by rw [List.nil_append, comps_cons, comps_nil, comps_nil]; rfl
  | u :: r, c => by rw [List.cons_append, comps_cons, comps_snoc t r, comps_cons]; rfl
end Sp
end Go.Proofs.YtadmlifmcdnhnaaDoor
