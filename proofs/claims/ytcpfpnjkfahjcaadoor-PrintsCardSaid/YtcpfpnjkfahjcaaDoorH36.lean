import Derived.Test.YtcpfpnjkfahjcaaDoorH03
import Derived.Test.YtcpfpnjkfahjcaaDoorH35
import Derived.Deep.RegionLaw
import Derived.Maps.AppendAt
/- The document's matcher as a row of nodes: no program is named here. -/
set_option linter.unusedSimpArgs false
set_option linter.unusedVariables false
namespace Go.Proofs.YtcpfpnjkfahjcaaDoor
namespace Sp

/-- A node: its kind (0 nothing, 1 a byte of a list, 2 a pair, 3 one of two, 4 a group, 5 a turn or none, 6 turns), its parts, the bytes, the group's number. -/
structure Nd where
  kind : Int
  a : Int
  b : Int
  set : Nat → Bool
  num : Int
def nd (k a b : Int) : Nd := ⟨k, a, b, fun _ => false, 0⟩

/-- The nodes so far, and how many groups are told. -/
structure Cp where
  ns : List Nd
  told : Int
def Cp.add (c : Cp) (n : Nd) : Cp × Int := (⟨c.ns ++ [n], c.told⟩, c.ns.length)

/-- So many nodes more, each with the one ahead of it behind it. -/
def reps (k a : Int) : Nat → Cp × Int → Cp × Int
  | 0, x => x
  | n + 1, x => reps k a n (x.1.add (nd k a x.2))
theorem reps_succ (k a : Int) : ∀ (n : Nat) (x : Cp × Int), reps k a (n + 1) x = (reps k a n x).1.add (nd k a (reps k a n x).2)
  | 0, _ => rfl
  | n + 1, x => by rw [reps, reps_succ k a n]; rfl
theorem reps_len (k a : Int) : ∀ (n : Nat) (x : Cp × Int), (reps k a n x).1.ns.length = x.1.ns.length + n
  | 0, _ => rfl
  | n + 1, x => by rw [reps, reps_len k a n]; simp [Cp.add]; omega
theorem reps_told (k a : Int) : ∀ (n : Nat) (x : Cp × Int), (reps k a n x).1.told = x.1.told
  | 0, _ => rfl
  | n + 1, x => by rw [reps, reps_told k a n]; rfl

/-- A part's count unfolded. -/
def wrap0 (a : Lab) (x : Cp × Int) : Cp × Int := if a.max < 0 then x.1.add (nd 6 x.2 0) else reps 5 x.2 (a.max - a.min).toNat (x.1.add (nd 0 0 0))
def wrap (a : Lab) (x : Cp × Int) : Cp × Int := if a.min < 0 then x else reps 2 x.2 a.min.toNat (wrap0 a x)

/-- One of several. -/
def pick : List Int → Cp × Int → Cp × Int
  | [], x => x
  | k :: r, x => pick r (if x.2 < 0 then (x.1, k) else x.1.add (nd 3 k x.2))
/-- One behind the other. -/
def chain : List Int → Cp × Int → Cp × Int
  | [], x => x
  | k :: r, x => chain r (x.1.add (nd 2 k x.2))

def open1 (a : Lab) (c : Cp) : Cp := if a.kind = 3 ∧ a.told = true then ⟨c.ns, c.told + 1⟩ else c
def numOf (a : Lab) (c : Cp) : Int := if a.told = true then c.told + 1 else 0
/-- What a part without its count becomes: c ahead of it, x behind its parts. -/
def bareEnd (a : Lab) (c : Cp) (x : Cp × List Int) : Cp × Int :=
  if a.kind ≤ 2 then c.add ⟨1, 0, 0, fun k => a.set k != a.not, 0⟩
  else if a.kind = 3 then x.1.add ⟨4, x.2.headD 0, 0, fun _ => false, numOf a c⟩
  else if a.kind = 4 then pick x.2.reverse (x.1, -1)
  else chain x.2.reverse (x.1.add (nd 0 0 0))

def comps : List Tr → Cp → Cp × List Int
  | [], c => (c, [])
  | ⟨a, ks⟩ :: r, c => 
    ((comps r (wrap a (bareEnd a c (comps ks (open1 a c)))).1).1, (wrap a (bareEnd a c (comps ks (open1 a c)))).2 :: (comps r (wrap a (bareEnd a c (comps ks (open1 a c)))).1).2)
def bare (t : Tr) (c : Cp) : Cp × Int := bareEnd t.lab c (comps t.kids (open1 t.lab c))
def comp (t : Tr) (c : Cp) : Cp × Int := wrap t.lab (bare t c)
theorem comps_nil (c : Cp) : comps [] c = (c, []) := by rw [comps]
theorem comps_cons (t : Tr) (r : List Tr) (c : Cp) : comps (t :: r) c = ((comps r (comp t c).1).1, (comp t c).2 :: (comps r (comp t c).1).2) := by
  obtain ⟨a, ks⟩ := t; rw [comps]; rfl
theorem comps_snoc (t : Tr) : ∀ (l : List Tr) (c : Cp), comps (l ++ [t]) c = ((comp t (comps l c).1).1, (comps l c).2 ++ [(comp t (comps l c).1).2])
  | [], c => by rw [List.nil_append, comps_cons, comps_nil, comps_nil]; rfl
  | u :: r, c => by rw [List.cons_append, comps_cons, comps_snoc t r, comps_cons]; rfl
end Sp
end Go.Proofs.YtcpfpnjkfahjcaaDoor

set_option linter.unusedSimpArgs false
set_option linter.unusedVariables false
namespace Go.Proofs.YtcpfpnjkfahjcaaDoor
open Go.RowKit

section
variable {P : Program}
/-- An append to a row of the call's own, as one step of a region that draws. -/
theorem step_append_own {ops : Array Oper} {o : Oper} {a : Act} {w : World} {K : Act → World → Prop} {Q : Exit → Act → World → Prop} {E : Prop} (hgd : o.guard = none) (s x : Operand) (t : TypeId)
    (ho : o.op = .call { callee := .builtin .append, args := #[s, x], argTypes := #[t, t] })
    (base : Nat) (e : TypeId) (i : TypeInfo) (z : Value) (size bytes : Nat) (ht : P.underlying t = some (.slice e)) (hi : P.info? e = some i) (hz : i.zero = some z)
    (hsize : i.size = size) (hby : i.bytes = bytes) (hzs : z.cells.size = size) (hsz : 0 < size)
    (v : Value) (n : Nat) (xs : List Value) (hs : a.eval s = v) (hown : w.ownsRow base e size v n xs)
    (ad : Addr) (m c : Nat) (news : List Value) (hx : a.eval x = .slice (some ad) m c) (hl : news.length = m * size) (hnews : ∀ j u, news[j]? = some u → w.cell? (ad.add j) = some u) (h1 : ∀ u ∈ news, u.oneCell' = true)
    (h63 : n + m ≤ maxLen) (hbytes : (n + m) * bytes ≤ 140737488355328) (hbase : base ≤ w.heap.size)
    (h : ∀ v' w', w'.ownsRow base e size v' (n + m) (xs ++ news) → w.grownBy w' v.ownBlock → (v' = .slice none 0 0 ↔ v = .slice none 0 0 ∧ m = 0) → (v'.ownBlock = v.ownBlock ∨ v'.ownBlock = some w.heap.size) → K (a.put o.dst v') w') :
    if Region.wanted o (yielded ops a.tmps) = true then Oper.wp P o a w K Q else E := by
  have hw : Region.wanted o (yielded ops a.tmps) = true := by simp [Region.wanted, hgd]
  rw [if_pos hw]
  obtain ⟨v', w', hr, h2, h3, h4, h5⟩ := run_append_own_at (P := P) w base t o.type e i z size bytes ht hi hz hsize hby hzs hsz v n xs hown ad m c news hl hnews h1 h63 hbytes hbase
  unfold Oper.wp
  simp only [execOp, ho, resolve, invoke, builtin, Sem.run_bind, Sem.run_pure, Result.andThen_ok, List.map_toArray, List.map_cons, List.map_nil, hs, hx, hr]
  exact h v' w' h2 h3 h4 h5
end

/-- The document's pattern, as it grows: its nodes' cells, one behind the other. -/
structure PatAt (w : World) (p : Nat) (v : Value) (n : Nat) (xs : List Value) (top told : Int) : Prop where
  block : w.heap[p]? = some (.cells #[v, .int .i64 top, .int .i64 told] 52 (0, 0))
  own : w.ownsRow (p + 1) 81 260 v n xs

theorem infoNode : ∃ i z, Tryd.prog.info? 81 = some i ∧ i.zero = some z ∧ i.size = 260 ∧ i.bytes = 288 ∧ z.cells.size = 260 := by
  have h : (match Tryd.prog.info? 81 with | some i => (match i.zero with | some z => (i.size == 260 && i.bytes == 288 && z.cells.size == 260) | none => false) | none => false) = true := by kernel_rfl
  cases hi : Tryd.prog.info? 81 with
  | none => rw [hi] at h; cases h
  | some i =>
    rw [hi] at h
    cases hz : i.zero with
    | none => simp [hz] at h
    | some z => simp [hz] at h; exact ⟨i, z, rfl, hz, h.1.1, h.1.2, h.2⟩

/-- The cells of a block. -/
def nodeOf (w : World) (b : Nat) : Array Value := match w.heap[b]? with | some (.cells c _ _) => c | _ => #[]
def nodeOK (w : World) (b : Nat) : Bool := match w.heap[b]? with | some (.cells c _ _) => c.size == 260 | _ => false
theorem nodeOK_drewN (w : World) (b k : Nat) : nodeOK (w.drewN k) b = nodeOK w b := rfl
theorem nodeOf_drewN (w : World) (b k : Nat) : nodeOf (w.drewN k) b = nodeOf w b := rfl
theorem load_node (w : World) (b : Nat) (h : nodeOK w b = true) : (loadVar 81 ⟨b, 0, none⟩).run Tryd.prog w = .ok (.agg (nodeOf w b)) w := by
  obtain ⟨it, z, hi1, hi2, hi3, hi4, hi5⟩ := infoNode
  unfold nodeOK at h
  unfold nodeOf
  cases hb : w.heap[b]? with
  | none => rw [hb] at h; cases h
  | some o =>
    rw [hb] at h
    cases o with
    | cells c t fr => exact run_loadVar_row (P := Tryd.prog) w b t 81 c fr _ hb Tryd.underlying81 rfl (by rw [hi1]; simp at h ⊢; omega)
    | _ => cases h
/-- A load of a whole node, kept closed. -/
def bigLoad (v : Value) : Sem Value := Instr.loadAt 81 v
theorem loadAt_node (v : Value) : Instr.loadAt 81 v = bigLoad v := rfl
theorem run_bigLoad (w : World) (b : Nat) (h : nodeOK w b = true) : (bigLoad (.pointer (some ⟨b, 0, none⟩))).run Tryd.prog w = .ok (.agg (nodeOf w b)) w := by
  unfold bigLoad
  simp only [Instr.loadAt, Instr.sureAddr, Sem.run_bind, Sem.run_pure, Result.andThen_ok, load_node w b h]
attribute [local go_sem ↓] loadAt_node

theorem splice_list : ∀ (l : List Value) (k : Nat) (Z : Array Value), ((l.zipIdx k).foldl (fun cs (p : Value × Nat) => cs.setIfInBounds (0 + p.2) p.1) Z).size = Z.size ∧ ∀ i, ((l.zipIdx k).foldl (fun cs (p : Value × Nat) => cs.setIfInBounds (0 + p.2) p.1) Z)[i]? = if k ≤ i ∧ i < k + l.length ∧ i < Z.size then l[i - k]? else Z[i]?
  | [], k, Z => by simp; intro i; omega
  | x :: r, k, Z => by
    have ih := splice_list r (k + 1) (Z.setIfInBounds (0 + k) x)
    simp only [List.zipIdx_cons, List.foldl_cons]
    refine ⟨by rw [ih.1]; simp, fun i => ?_⟩
    rw [ih.2 i]
    simp only [Array.size_setIfInBounds, List.length_cons, Nat.zero_add]
    by_cases h1 : k + 1 ≤ i ∧ i < k + 1 + r.length ∧ i < Z.size
    · rw [if_pos h1, if_pos (by omega)]
      rw [show i - k = (i - (k + 1)) + 1 by omega, List.getElem?_cons_succ]
    · rw [if_neg h1]
      by_cases h2 : i = k
      · subst h2
        by_cases h3 : i < Z.size
        · rw [if_pos (by omega), Array.getElem?_setIfInBounds_self_of_lt h3]; simp
        · rw [if_neg (by omega), Array.getElem?_eq_none (by simp; omega), Array.getElem?_eq_none (by omega)]
      · rw [if_neg (by omega), Array.getElem?_setIfInBounds_ne (by omega)]
theorem splice_all (c Z : Array Value) (h : Z.size = c.size) : c.zipIdx.foldl (fun cs (p : Value × Nat) => cs.setIfInBounds (0 + p.2) p.1) Z = c := by
  rw [← Array.foldl_toList, Array.toList_zipIdx]
  have q := splice_list c.toList 0 Z
  apply Array.ext_getElem?
  intro i
  rw [q.2 i]
  by_cases hi : i < c.size
  · rw [if_pos (by simp; omega)]; simp
  · rw [if_neg (by simp; omega), Array.getElem?_eq_none (by omega), Array.getElem?_eq_none (by omega)]

/-- A slice of one node, kept closed. -/
def bigBuild (ps : Array (Nat × Value)) : Sem Value := Instr.buildSlice 44 1 ps
theorem build_node (ps : Array (Nat × Value)) : Instr.buildSlice 44 1 ps = bigBuild ps := rfl
theorem run_bigBuild (w : World) (c : Array Value) (hc : c.size = 260) : (bigBuild #[(0, .agg c)]).run Tryd.prog w = .ok (.slice (some ⟨w.heap.size, 0, none⟩) 1 1) (w.alloc (.cells c 81)) := by
  obtain ⟨it, z, hi1, hi2, hi3, hi4, hi5⟩ := infoNode
  have hsp : ∀ Z : Array Value, Z.size = 260 → c.zipIdx.foldl (fun cs (p : Value × Nat) => cs.setIfInBounds (0 + p.2) p.1) Z = c := fun Z hZ => splice_all c Z (by omega)
  have e1 : ¬ (1 * it.size > 2 ^ 24) := by rw [hi3]; decide
  have e1' : ¬ (2 ^ 24 < it.size) := by rw [hi3]; decide
  have e2 : ¬ (1 * it.size = 0) := by rw [hi3]; decide
  have e2' : ¬ (it.size = 0) := by rw [hi3]; decide
  have efill : ∀ Z : Array Value, Z.size = it.size → Instr.fill (fun i => some (i * it.size, it.size)) Z [(0, .agg c)] = some c := fun Z hZ => by
    unfold Instr.fill
    have hcc : (Value.agg c).cells = c := rfl
    simp only [hcc, Nat.zero_mul]
    rw [if_neg (by simp; omega)]
    unfold Instr.fill
    exact congrArg some (hsp Z (by omega))
  have efill' := efill (Array.map (fun x => z.cells[x % z.cells.size]!) (Array.range (1 * it.size))) (by simp)
  clear efill hsp
  unfold bigBuild Instr.buildSlice
  simp [Sem.run_bind, run_underlying Tryd.underlying44, sizeOf, typeInfo, hi1, e1', e2', zeroValue, hi2]
  simp at efill'
  rw [efill']
  rfl
attribute [local go_sem ↓] build_node

theorem newsC (c : Array Value) (W : World) : ∀ j u, c.toList[j]? = some u → (W.alloc (.cells c 81)).cell? ((⟨W.heap.size, 0, none⟩ : Addr).add j) = some u := by
  intro j u hj
  have hadd : (⟨W.heap.size, 0, none⟩ : Addr).add j = ⟨W.heap.size, j, none⟩ := by unfold Addr.add; split <;> simp_all
  rw [hadd]
  simpa using hj

theorem own_form' {w : World} {b : Nat} {e : TypeId} {v : Value} {n k : Nat} {xs : List Value} (h : w.ownsRow b e k v (n + 1) xs) : ∃ g cap, v = .slice (some ⟨g, 0, none⟩) (n + 1) cap := by
  rcases h.2 with ⟨_, q⟩ | ⟨g, cap, _, hv, _⟩
  · omega
  · exact ⟨g, cap, hv⟩
/-- What stands behind the append. -/
theorem afterAdd {W w1 w5 : World} {p : Nat} {v v' : Value} {n : Nat} {xs : List Value} {top told : Int} {c : Array Value} (hg : W.grownBy w5 v.ownBlock) (h : PatAt w1 p v n xs top told)
    (hh : W.heap = w1.heap.push (.cells c 81 (0, 0))) (ho : W.os = w1.os) (ht : W.tape = w1.tape) (hu : W.output = w1.output)
    (hown : w5.ownsRow (p + 1) 81 260 v' (n + 1) (xs ++ c.toList)) (hloc : v'.ownBlock = v.ownBlock ∨ v'.ownBlock = some W.heap.size) :
    ∃ g5 cap5, v' = .slice (some ⟨g5, 0, none⟩) (n + 1) cap5 ∧ w5.cell? ⟨p, 0, none⟩ = some v ∧ (∀ o, w5.frozen? ⟨p, o, none⟩ = false) ∧ Hid (∃ u, u = v'.ownBlock ∧ w5.heap[p]? = some (.cells #[v, .int .i64 top, .int .i64 told] 52 (0, 0)) ∧ Upd v.ownBlock.toList w1 w5 ∧ (u = v.ownBlock ∨ u = some (w1.heap.size + 1)) ∧ w5.ownsRow (p + 1) 81 260 v' (n + 1) (xs ++ c.toList)) := by
  obtain ⟨g5, cap5, hv⟩ := own_form' hown
  have hp := lt_of_heap h.block
  have hs : W.heap.size = w1.heap.size + 1 := by rw [hh]; simp
  have hb : w5.heap[p]? = some (.cells #[v, .int .i64 top, .int .i64 told] 52 (0, 0)) := by
    rw [hg.block p (by omega) (fun e => by have := (ownBlock_lt h.own e.symm).2; omega), hh, Array.getElem?_push_lt hp, ← Array.getElem?_eq_getElem hp]
    exact h.block
  have hW : Upd v.ownBlock.toList w1 W := ⟨ho, ht, hu, by omega, fun k hk _ => by rw [hh, Array.getElem?_push_lt hk, ← Array.getElem?_eq_getElem hk]⟩
  refine ⟨g5, cap5, hv, by simp [World.cell?, hb], fun o => by simp [World.frozen?, hb], _, rfl, hb, hW.trans (Upd.of_grown hg), ?_, hown⟩
  rw [hs] at hloc; exact hloc

/-- What 'add' leaves. -/
def AddOut (p : Nat) (v : Value) (n : Nat) (xs : List Value) (top told : Int) (c : Array Value) (w : World) (e : Ending) (w' : World) : Prop :=
  e = .returned (.int .i64 n) ∧ ∃ v', PatAt w' p v' (n + 1) (xs ++ c.toList) top told ∧ Upd (p :: v.ownBlock.toList) w w' ∧ (v'.ownBlock = v.ownBlock ∨ ∃ g, v'.ownBlock = some g ∧ w.heap.size ≤ g)

theorem addEnd {w w1 w5 : World} {p : Nat} {v v' : Value} {n : Nat} {xs : List Value} {top told : Int} {c : Array Value} {W : World} (hW : ∃ k, W = (w5.setCell ⟨p, 0, none⟩ v').drewN k) (h0 : Upd [] w w1)
    (h : ∃ u, u = v'.ownBlock ∧ w5.heap[p]? = some (.cells #[v, .int .i64 top, .int .i64 told] 52 (0, 0)) ∧ Upd v.ownBlock.toList w1 w5 ∧ (u = v.ownBlock ∨ u = some (w1.heap.size + 1)) ∧ w5.ownsRow (p + 1) 81 260 v' (n + 1) (xs ++ c.toList)) :
    AddOut p v n xs top told c w (.returned (.int .i64 n)) W := by
  obtain ⟨k, rfl⟩ := hW
  obtain ⟨u, hu, hb, hU, hl, ho⟩ := h
  have hv : ∀ g, v'.ownBlock = some g → p < g := fun g hg => by have := (ownBlock_lt ho hg).2; omega
  refine ⟨rfl, v', ⟨?_, ?_⟩, ?_, ?_⟩
  · have := heap_set hb 0 v'
    simpa [World.drewN] using this
  · exact ownsRow_same (w := w5) ho (fun g hg _ => Below.heap_setCell _ _ _ _ (by have := hv g hg; simp; omega))
  · exact (((h0.mono (by simp)).trans (hU.mono (by simp +contextual))).setCell (p := ⟨p, 0, none⟩) (by simp) _).drewN
  · rcases hl with q | q
    · exact Or.inl (hu ▸ q)
    · exact Or.inr ⟨_, hu ▸ q, by have := h0.size; omega⟩

set_option maxRecDepth 100000 in
set_option maxHeartbeats 1000000 in
theorem add_any (p : Nat) (v : Value) (n : Nat) (xs : List Value) (top told : Int) (c : Array Value) (hc : c.size = 260) (hone : ∀ u ∈ c.toList, u.oneCell' = true) (hn : n ≤ 1000000) (w : World) (h : PatAt w p v n xs top told) :
    Calls Tryd.prog 24 #[.pointer (some ⟨p, 0, none⟩), .agg c] w (AddOut p v n xs top told c w) := by
  obtain ⟨it, z, hi1, hi2, hi3, hi4, hi5⟩ := infoNode
  have hp : p < w.heap.size := lt_of_heap h.block
  have hc0 : w.cell? ⟨p, 0, none⟩ = some v := by simp [World.cell?, h.block]
  have hfz : ∀ o, w.frozen? ⟨p, o, none⟩ = false := fun o => by simp [World.frozen?, h.block]
  have HH : Hid (PatAt w p v n xs top told) := h
  have HI : Hid (Tryd.prog.info? 81 = some it ∧ it.zero = some z ∧ it.size = 260 ∧ it.bytes = 288 ∧ z.cells.size = 260) := ⟨hi1, hi2, hi3, hi4, hi5⟩
  clear h hi1 hi2 hi3 hi4 hi5
  go_enter Tryd.func24, Tryd.ntmps24
  go_wp2_with fail
  have HU0 : Hid (Upd [] w (w.alloc (.cells c 81))) := (Upd.refl _ _).alloc _
  have HH1 : Hid (PatAt (w.alloc (.cells c 81)) p v n xs top told) := ⟨by rw [Below.heap_alloc _ _ _ hp]; exact HH.out.block, HH.out.own.alloc _⟩
  have hb1 : (w.alloc (.cells c 81)).heap[w.heap.size]? = some (.cells c 81 (0, 0)) := by show (w.heap.push _)[w.heap.size]? = _; simp
  have HSZ : Hid ((w.alloc (.cells c 81)).heap.size = w.heap.size + 1) := by show _ = _; simp
  generalize (w.alloc (.cells c 81)) = w1 at *
  have hcp : w1.cell? ⟨p, 0, none⟩ = some v := by simp [World.cell?, HH1.out.block]
  have hfp : ∀ o, w1.frozen? ⟨p, o, none⟩ = false := fun o => by simp [World.frozen?, HH1.out.block]
  have hcp2 : (w1.alloc (Obj.cells c 81)).cell? ⟨p, 0, none⟩ = some v := by
    have hlt : p < w1.heap.size := lt_of_heap HH1.out.block
    simp only [World.cell?, Below.heap_alloc _ _ _ hlt, HH1.out.block]; rfl
  have hno : nodeOf w1 w.heap.size = c := by unfold nodeOf; rw [hb1]
  have hok : nodeOK w1 w.heap.size = true := by unfold nodeOK; rw [hb1]; simpa using hc
  have hl1 : ∀ k, (bigLoad (.pointer (some ⟨w.heap.size, 0, none⟩))).run Tryd.prog (w1.drewN k) = .ok (.agg c) (w1.drewN k) := fun k => by rw [run_bigLoad _ _ (by rw [nodeOK_drewN]; exact hok), nodeOf_drewN, hno]
  have hl2 : (bigLoad (.pointer (some ⟨w.heap.size, 0, none⟩))).run Tryd.prog w1.drew = .ok (.agg c) w1.drew := hl1 1
  clear hno hok
  have hbld := fun (w : World) => run_bigBuild w c hc
  clear hc0 hfz hb1
  have H63 : Hid (n + 1 ≤ maxLen) := by unfold Hid maxLen; omega
  have HBY : Hid ((n + 1) * 288 ≤ 140737488355328) := by unfold Hid; omega
  have hp1 : p + 1 ≤ w1.heap.size := by have := HSZ.out; omega
  go_region_law (refine step_append_own rfl _ _ 44 rfl (p + 1) 81 it z 260 288 Tryd.underlying44 HI.out.1 HI.out.2.1 HI.out.2.2.1 HI.out.2.2.2.1 HI.out.2.2.2.2 (by decide) v n xs (by simp [Act.eval, Act.put]) (by exact HH1.out.own.alloc _) ⟨w1.heap.size, 0, none⟩ 1 1 c.toList (by simp [Act.eval, Act.put]) (by simp [hc]) (by exact newsC c w1) hone H63.out HBY.out (by simp; omega) ?_; intro v' w5 hown' hgrow hnil hloc; obtain ⟨g5, cap5, hv5, hc5, hf5, HX5⟩ := afterAdd hgrow HH1.out rfl rfl rfl rfl hown' hloc; subst hv5; clear hown' hgrow hnil hloc)
  all_goals
    go_wp2_with fail
    go_ret
    exact addEnd ⟨0, rfl⟩ HU0.out HX5.out
end Go.Proofs.YtcpfpnjkfahjcaaDoor
