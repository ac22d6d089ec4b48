import Derived.Test.YtcpfpnjkfahjcaaDoorH34
import Derived.Test.YtcpfpnjkfahjcaaDoorH03
set_option linter.unusedSimpArgs false
set_option linter.unusedVariables false
namespace Go.Proofs.YtcpfpnjkfahjcaaDoor
open Go.RowKit

section
variable {P : Program}
/-- A whole array out of the middle of a block. -/
theorem run_loadVar_mid (w : World) (ad : Addr) (ty : TypeId) (cs : Array Value) (d : TypeDesc) (hc : ∀ j v, cs[j]? = some v → w.cell? (ad.add j) = some v)
    (hu : P.underlying ty = some d) (hd : (match d with | .struct _ | .array _ _ => true | _ => false) = true) (hi : (P.info? ty).map (·.size) = some cs.size) :
    (loadVar ty ad).run P w = .ok (.agg cs) w := by
  have hl : (loadCells ad cs.toList.length).run P w = .ok cs.toList.toArray w := run_loadCells_list (P := P) w ad cs.toList (fun j v hv => hc j v (by simpa using hv))
  cases hq : P.info? ty with
  | none => simp [hq] at hi
  | some i =>
    have hs : i.size = cs.size := by simpa [hq] using hi
    have hagg : (isAgg ty).run P w = .ok true w := by
      unfold isAgg
      rw [Sem.run_bind, run_underlying hu w]
      cases d <;> simp_all
    simp only [Array.length_toList, Array.toArray_toList] at hl
    simp [loadVar, Sem.run_bind, hagg, sizeOf, typeInfo, hq, hs, hl]
theorem wpList_load_mid {ops : Array Oper} {rest : List Oper} {o : Oper} {a : Act} {w : World} {Q : Exit → Act → World → Prop} (hgd : o.guard = none) (ty : TypeId) (x : Operand) (ho : o.op = .load ty x)
    (ad : Addr) (hx : a.eval x = .pointer (some ad)) (cs : Array Value) (d : TypeDesc) (hc : ∀ j v, cs[j]? = some v → w.cell? (ad.add j) = some v)
    (hu : P.underlying ty = some d) (hd : (match d with | .struct _ | .array _ _ => true | _ => false) = true) (hi : (P.info? ty).map (·.size) = some cs.size)
    (h : wpList P ops Q rest (a.put o.dst (.agg cs)) w) : wpList P ops Q (o :: rest) a w :=
  wpList_plain hgd fun _ hK => by
    unfold Oper.wp execOp
    simp only [ho, hx, Instr.loadAt, Instr.sureAddr, Sem.run_bind, Sem.run_pure, Result.andThen_ok, run_loadVar_mid w ad ty cs d hc hu hd hi]
    exact hK _ _ h
end

/-- The 256 marks of a part. -/
def marks (f : Nat → Bool) : Array Value := Array.ofFn (n := 256) fun i => .bool (f i)
theorem marks_size (f : Nat → Bool) : (marks f).size = 256 := by simp [marks]
theorem marks_get (f : Nat → Bool) (i : Nat) (h : i < 256) : (marks f)[i]? = some (.bool (f i)) := by simp [marks, h]

theorem marks_cells {w : World} {p : Nat} {a : PS} (h : PtAt w p a) : ∀ j v, (marks a.set)[j]? = some v → w.cell? ((⟨p, 2, none⟩ : Addr).add j) = some v := by
  intro j v hj
  have hlt : j < 256 := by
    rcases Nat.lt_or_ge j 256 with q | q
    · exact q
    · rw [Array.getElem?_eq_none (by rw [marks_size]; exact q)] at hj; cases hj
  rw [marks_get _ _ hlt] at hj
  have hadd : (⟨p, 2, none⟩ : Addr).add j = ⟨p, 2 + j, none⟩ := by unfold Addr.add; split <;> simp_all
  rw [hadd, ← hj]; exact h.setFact j hlt

theorem infoArr : ((Tryd.prog.info? 75).map (·.size) == some 256) = true := by kernel_rfl
theorem infoArr' (f : Nat → Bool) : (Tryd.prog.info? 75).map (·.size) = some (marks f).size := by rw [marks_size]; exact eq_of_beq infoArr

set_option maxHeartbeats 1000000 in
theorem bare_list (p : Nat) (a : Lab) (ks : List Tr) (l : Value) (w : World) (h : PtAt w p (psOf a l)) (hk : a.kind = 2) : BareC p ⟨a, ks⟩ w := by
  have HR : Hid (Sp.bareT ⟨a, ks⟩ = (if a.not then [91, 94] else [91]) ++ Sp.listed a.set ++ [93]) := by show Sp.bare1 a _ = _; unfold Sp.bare1; rw [if_neg (by omega), if_neg (by omega), if_pos hk]
  have hm0 := marks_cells h
  have hse : (psOf a l).set = a.set := rfl
  rw [hse] at hm0
  have HM : Hid (∀ j v, (marks a.set)[j]? = some v → w.cell? ((⟨p, 2, none⟩ : Addr).add j) = some v) := hm0
  clear hm0 hse
  have hll := Sp.listed_le a.set
  obtain ⟨p0', p1, p258', p259', p260', p261, p262, p263, pz⟩ := h.facts
  have p0 : w.cell? ⟨p, 0, none⟩ = some (.int .u8 98) := by rw [p0']; simp [psOf, hk, kindOf]
  have p258 : w.cell? ⟨p, 258, none⟩ = some (.bool a.not) := p258'
  have p259 : w.cell? ⟨p, 259, none⟩ = some (.bool false) := by rw [p259']; simp [psOf, hk]
  have p260 : w.cell? ⟨p, 260, none⟩ = some (.bool false) := by rw [p260']; simp [psOf, hk]
  clear p0' p258' p259' p260' p1 p261 p262 p263 h hk
  unfold BareC
  cases hnot : a.not with
  | false =>
    have HR' : Hid (Sp.bareT ⟨a, ks⟩ = [91] ++ Sp.listed a.set ++ [93]) := by show _ = _; rw [HR.out, hnot]; rfl
    rw [hnot] at p258
    have k1 : ∀ w, (Op.stringOp .add ⟨#[91]⟩ (str (Sp.listed a.set))).run Tryd.prog w = .ok (.string (str (cat [91] (Sp.listed a.set)))) w := addS [91] _ (by simp) (by omega)
    have k2 : ∀ w, (Op.stringOp .add (str (cat [91] (Sp.listed a.set))) ⟨#[93]⟩).run Tryd.prog w = .ok (.string (str (cat (cat [91] (Sp.listed a.set)) [93]))) w := addS _ [93] (by rw [cat_len]; simp; omega) (by simp)
    clear hnot
    go_enter Tryd.func21, Tryd.ntmps21
    go_wp2_with (refine wpList_load_mid rfl 75 _ rfl ⟨p, 2, none⟩ rfl (marks a.set) _ HM.out Tryd.underlying75 rfl (infoArr' a.set) ?_)
    refine (listed_any a.set (marks a.set) (marks_size _) (fun i hi => marks_get _ _ hi) _).mono ?_
    rintro e w2 ⟨rfl, hu2⟩
    go_wp2_with fail
    go_ret
    exact ⟨ret_str (by rw [HR'.out]; rfl), hu2⟩
  | true =>
    have HR' : Hid (Sp.bareT ⟨a, ks⟩ = [91, 94] ++ Sp.listed a.set ++ [93]) := by show _ = _; rw [HR.out, hnot]; rfl
    rw [hnot] at p258
    have k1 : ∀ w, (Op.stringOp .add ⟨#[91, 94]⟩ (str (Sp.listed a.set))).run Tryd.prog w = .ok (.string (str (cat [91, 94] (Sp.listed a.set)))) w := addS [91, 94] _ (by simp) (by omega)
    have k2 : ∀ w, (Op.stringOp .add (str (cat [91, 94] (Sp.listed a.set))) ⟨#[93]⟩).run Tryd.prog w = .ok (.string (str (cat (cat [91, 94] (Sp.listed a.set)) [93]))) w := addS _ [93] (by rw [cat_len]; simp; omega) (by simp)
    clear hnot
    go_enter Tryd.func21, Tryd.ntmps21
    go_wp2_with (refine wpList_load_mid rfl 75 _ rfl ⟨p, 2, none⟩ rfl (marks a.set) _ HM.out Tryd.underlying75 rfl (infoArr' a.set) ?_)
    refine (listed_any a.set (marks a.set) (marks_size _) (fun i hi => marks_get _ _ hi) _).mono ?_
    rintro e w2 ⟨rfl, hu2⟩
    go_wp2_with fail
    go_ret
    exact ⟨ret_str (by rw [HR'.out]; rfl), hu2⟩

structure SingleInv (b : Nat) (w : World) (n : Nat) (s c : Value) (wr : World) : Prop where
  upd : Upd [] w wr
  st : ∃ k : Nat, k + n = 256 ∧ c = .int .i64 k ∧ s = .string (str (if k ≤ b then [] else Sp.shown b false))

set_option maxRecDepth 100000 in
set_option maxHeartbeats 1000000 in
theorem bare_byte (p : Nat) (a : Lab) (ks : List Tr) (l : Value) (w : World) (h : PtAt w p (psOf a l)) (ha : Sp.LabOK a) (hk : a.kind = 0) : BareC p ⟨a, ks⟩ w := by
  have HR : Hid (Sp.bareT ⟨a, ks⟩ = Sp.shown a.byte false) := by show Sp.bare1 a _ = _; unfold Sp.bare1; rw [if_neg (by omega), if_pos hk]
  obtain ⟨hb, hset⟩ := ha.byte hk
  have HM : Hid (∀ i, i < 256 → w.cell? ⟨p, 2 + i, none⟩ = some (.bool (i == a.byte))) := fun i hi => by rw [h.setFact i hi]; exact congrArg (fun b => some (Value.bool b)) (hset i hi)
  have hp : p < w.heap.size := h.lt
  obtain ⟨p0', p1, p258', p259', p260', p261, p262, p263, pz⟩ := h.facts
  have p259 : w.cell? ⟨p, 259, none⟩ = some (.bool false) := by rw [p259']; simp [psOf, hk]
  have p260 : w.cell? ⟨p, 260, none⟩ = some (.bool true) := by rw [p260']; simp [psOf, hk]
  clear p0' p258' p259' p260' p1 p261 p262 p263 h hk ha hset
  unfold BareC
  generalize a.byte = b at *
  go_enter Tryd.func21, Tryd.ntmps21
  go_wp2_with fail
  go_loopg [3, 4] 256 (fun gn s cv wr => SingleInv b w gn s cv wr)
  case atStart => exact ⟨Upd.refl _ _, 0, by omega, rfl, by simp; rfl⟩
  case round =>
    obtain ⟨hu, k, hkn, rfl, rfl⟩ := hrel
    have HU : Hid (Upd [] w wr) := hu
    by_cases hlt : k < 256
    · obtain ⟨fuel, rfl⟩ : ∃ n, gk = n + 1 := ⟨gk - 1, by omega⟩
      have hc : wr.cell? ⟨p, 2 + k, none⟩ = some (.bool (k == b)) := (hu.cells p (2 + k) hp).trans (HM.out k hlt)
      clear hu
      by_cases hkb : k = b
      · have hc' : wr.cell? ⟨p, 2 + k, none⟩ = some (.bool true) := by rw [hc]; simp [hkb]
        have HS : Hid ((if k + 1 ≤ b then [] else Sp.shown b false) = Sp.shown k false) := by show _ = _; rw [if_neg (by omega), hkb]
        clear hc hkb
        generalize (if k ≤ b then [] else Sp.shown b false) = X at *
        go_wp2_with fail
        refine (shown_any k false _ (by omega) (by omega)).mono ?_
        rintro e w3 ⟨rfl, hu3⟩
        have HU3 : Hid (Upd [] w w3) := HU.out.trans hu3
        clear hu3
        go_wp2_with fail
        go_roundg fuel
        case measure => omega
        case rel => exact ⟨HU3.out, k + 1, by omega, by go_num, by rw [HS.out]⟩
      · have hc' : wr.cell? ⟨p, 2 + k, none⟩ = some (.bool false) := by rw [hc]; simp [hkb]
        have HS : Hid ((if k + 1 ≤ b then [] else Sp.shown b false) = (if k ≤ b then [] else Sp.shown b false)) := by
          show _ = _
          by_cases q : k ≤ b
          · rw [if_pos q, if_pos (by omega)]
          · rw [if_neg q, if_neg (by omega)]
        clear hc hkb
        generalize hX : (if k ≤ b then [] else Sp.shown b false) = X at *
        clear hX
        go_wp2_with fail
        go_roundg fuel
        case measure => omega
        case rel => exact ⟨HU.out, k + 1, by omega, by go_num, by rw [HS.out]⟩
    · have HS : Hid ((if k ≤ b then [] else Sp.shown b false) = Sp.shown b false) := if_neg (by omega)
      rw [HS.out]
      clear hu
      go_wp2_with fail
      go_ret
      exact ⟨ret_str (by rw [HR.out]), HU.out⟩
end Go.Proofs.YtcpfpnjkfahjcaaDoor

set_option linter.unusedSimpArgs false
set_option linter.unusedVariables false
namespace Go.Proofs.YtcpfpnjkfahjcaaDoor
open Go.RowKit

theorem bare_core (p : Nat) (a : Lab) (ks : List Tr) (l : Value) (qs : List Nat) (w : World) (h : NodeAt w p a l qs) (ha : Sp.LabOK a) (hks : Sp.TrsOK ks) (hlen : qs.length = ks.length) (hn : Sp.nodes ks ≤ 1000) (hih : ∀ w', Upd [] w w' → ∀ (i q : Nat) (t : Tr), qs[i]? = some q → ks[i]? = some t → TextC q t w') : BareC p ⟨a, ks⟩ w := by
  rcases (by have := ha.kind; omega : a.kind = 0 ∨ a.kind = 1 ∨ a.kind = 2 ∨ a.kind = 3 ∨ a.kind = 4 ∨ a.kind = 5) with hk | hk | hk | hk | hk | hk
  · exact bare_byte p a ks l w h.pt ha hk
  · exact bare_dot p a ks l w h.pt hk
  · exact bare_list p a ks l w h.pt hk
  · cases ht : a.told with
    | true => exact bare_told p a ks l qs w h hks hlen hn hih hk ht
    | false => exact bare_quiet p a ks l qs w h hks hlen hn hih hk ht
  · exact bare_choice p a ks l qs w h hks hlen hn hih hk
  · exact bare_row p a ks l qs w h hks hlen hn hih hk

theorem text_all : ∀ (ts : List Tr) (S : Nat → Prop) (ps : List Nat) (w : World), PartsAt w S ps ts → Sp.TrsOK ts → Sp.nodes ts ≤ 1000 → ∀ (i p : Nat) (t : Tr), ps[i]? = some p → ts[i]? = some t → TextC p t w
  | [], _, _, _, _, _, _, i, _, _, _, h => by simp at h
  | ⟨a, ks⟩ :: r, S, [], w, h, _, _, _, _, _, _, _ => (PartsAt_no1 h).elim
  | ⟨a, ks⟩ :: r, S, p :: ps, w, h, ho, hn, 0, q, t, h1, h2 => by
    simp at h1 h2; subst h1; subst h2
    rw [PartsAt_cons] at h
    rw [Sp.TrsOK] at ho
    rw [Sp.nodes] at hn
    obtain ⟨_, ⟨l, qs, h3, h4, _, h5⟩, _⟩ := h
    have hl := PartsAt.length _ _ h5
    refine text_core p a ks l w h3 ho.1 (bare_core p a ks l qs w ⟨h3, h4⟩ ho.1 ho.2.1 hl (by omega) (fun w' hu i q t hq ht => ?_)) ?_
    · exact text_all ks _ qs w' (PartsAt.same _ _ _ h5 (fun k _ hk => hu.block k hk (by simp))) ho.2.1 (by omega) i q t hq ht
    · have := bareT_le ⟨a, ks⟩; simp at this; omega
  | ⟨a, ks⟩ :: r, S, p :: ps, w, h, ho, hn, i + 1, q, t, h1, h2 => by
    rw [PartsAt_cons] at h
    rw [Sp.TrsOK] at ho
    rw [Sp.nodes] at hn
    exact text_all r S ps w h.2.2 ho.2.2 (by omega) i q t (by simpa using h1) (by simpa using h2)


set_option maxHeartbeats 400000 in
theorem refPrint (s : ByteArray) (w : World) :
    Calls Tryd.prog 5 #[.string s] w (PrintOut s w) := by
  go_enter Tryd.func5, Tryd.ntmps5
  go_wp2_with fail
  refine (read_any s _).mono ?_
  rintro e w2 ⟨hu2, hq2⟩
  have HU2 : Hid (Upd [] w w2) := hu2
  clear hu2
  revert hq2
  cases hr : Sp.read s
  case error f =>
    obtain ⟨e1, a1⟩ := f
    rintro ⟨he1, pv, r, x, rfl, hf, rfl, rfl, _⟩
    have HR : Hid (printR s = ([], x.e, x.a)) := by show _ = _; unfold printR; rw [hr]
    have hb : (x.e != 0) = true := by simpa using he1
    obtain ⟨c0, c1, c2, c3, c4, c5, fz⟩ := hf.facts
    clear he1 hr hf
    unfold ptr
    go_wp2_with fail
    go_quiet (fail)
    go_wp2_with fail
    go_ret3
    exact ⟨tup3 (by rw [HR.out]; rfl) (by rw [HR.out]; rfl) (by rw [HR.out]; rfl), HU2.out.drewN⟩
  case ok f =>
    obtain ⟨t, n⟩ := f
    rintro ⟨p, r, x, rfl, hp, hm, hf, he, hn, _⟩
    have HR : Hid (printR s = (Sp.text t, 0, 0)) := by show _ = _; unfold printR; rw [hr]
    have hb : (x.e != 0) = false := by simp [he]
    have HT : Hid (TextC p t w2) := text_all [t] _ [p] w2 hp hm.1 (by have := Sp.read_nods hr; omega) 0 p t rfl rfl
    obtain ⟨c0, c1, c2, c3, c4, c5, fz⟩ := hf.facts
    clear he hr hf hp hm hn
    unfold ptr
    go_wp2_with fail
    have hcall := HT.out
    unfold TextC at hcall
    refine hcall.mono ?_
    clear hcall
    rintro e w3 ⟨rfl, hu3⟩
    go_wp2_with fail
    go_ret3
    exact ⟨tup3 (by rw [HR.out]; rfl) (by rw [HR.out]; rfl) (by rw [HR.out]; rfl), HU2.out.trans hu3⟩
end Go.Proofs.YtcpfpnjkfahjcaaDoor
