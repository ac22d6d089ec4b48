import Derived.Test.YtcpfpnjkfahjcaaDoorH29
import Derived.Test.YtcpfpnjkfahjcaaDoorH02
set_option linter.unusedSimpArgs false
set_option linter.unusedVariables false
namespace Go.Proofs.YtcpfpnjkfahjcaaDoor
open Go.RowKit

/-- What is read of a node. -/
structure NodeAt (w : World) (p : Nat) (a : Lab) (l : Value) (qs : List Nat) : Prop where
  pt : PtAt w p (psOf a l)
  own : w.ownsRow (p + 1) 40 1 l qs.length (qs.map ptr)

def SizeC (p : Nat) (t : Tr) (w : World) : Prop := Calls Tryd.prog 20 #[.pointer (some ⟨p, 0, none⟩)] w fun e w' => e = .returned (.int .i64 (Sp.size t)) ∧ w' = w

theorem kind_cases {a : Lab} (h : a.kind ≤ 5) : (a.kind ≤ 2 ∧ kindOf a.kind = 98) ∨ (a.kind = 3 ∧ kindOf a.kind = 40) ∨ (a.kind = 4 ∧ kindOf a.kind = 124) ∨ (a.kind = 5 ∧ kindOf a.kind = 32) := by
  rcases (by omega : a.kind = 0 ∨ a.kind = 1 ∨ a.kind = 2 ∨ a.kind = 3 ∨ a.kind = 4 ∨ a.kind = 5) with h | h | h | h | h | h <;> rw [h] <;> simp [kindOf]

theorem TrsOK_take {l : List Tr} (h : Sp.TrsOK l) (k : Nat) : Sp.TrsOK (l.take k) := by
  induction l generalizing k with
  | nil => simpa using h
  | cons t r ih =>
    cases k with
    | zero => exact Sp.TrsOK_nil
    | succ k => rw [Sp.TrsOK_cons] at h; rw [List.take_succ_cons, Sp.TrsOK_cons]; exact ⟨h.1, h.2.1, ih h.2.2 k⟩
theorem sizes_take {ks : List Tr} {k : Nat} {t : Tr} (acc : Int) (h : ks[k]? = some t) : Sp.sizes acc (ks.take (k + 1)) = min (Sp.sizes acc (ks.take k) + Sp.size t) 1000000 := by
  rw [List.take_add_one, h]; exact Sp.sizes_snoc t _ _

/-- The ways out of 'size'. -/
theorem sz_a {a : Lab} {S : Int} (h : a.min < 0) (hk : a.kind ≠ 3) : Sp.sz1 a S = S := by unfold Sp.sz1; rw [if_pos h, if_neg hk]
theorem sz_b {a : Lab} {S m : Int} (h : ¬ a.min < 0) (h2 : a.max < 0) (hk : a.kind ≠ 3) (hm : max a.min 1 = m) : Sp.sz1 a S = min (S * m) 1000000 := by unfold Sp.sz1; rw [if_neg h, if_pos h2, if_neg hk, hm]
theorem sz_c {a : Lab} {S : Int} (h : ¬ a.min < 0) (h2 : ¬ a.max < 0) (hk : a.kind ≠ 3) : Sp.sz1 a S = min (S * a.max) 1000000 := by unfold Sp.sz1; rw [if_neg h, if_neg h2, if_neg hk]
theorem sz_g {a : Lab} {S : Int} (hk : a.kind = 3) : Sp.sz1 a S = Sp.sz1 { a with kind := 0 } (max S 1) := by unfold Sp.sz1; simp [hk]

theorem mul_bd {S m : Int} (h0 : 0 ≤ S) (h1 : S ≤ 1000000) (h2 : 0 ≤ m) (h3 : m ≤ 20) : 0 ≤ S * m ∧ S * m ≤ 20000000 := by
  refine ⟨Int.mul_nonneg h0 h2, ?_⟩
  have := Int.mul_le_mul h1 h3 h2 (by omega : (0 : Int) ≤ 1000000)
  omega

set_option maxHeartbeats 2000000 in
theorem size_98 (p : Nat) (a : Lab) (ks : List Tr) (l : Value) (qs : List Nat) (w : World) (h : NodeAt w p a l qs) (ha : Sp.LabOK a) (hks : Sp.TrsOK ks) (hlen : qs.length = ks.length) (hih : ∀ (i q : Nat) (t : Tr), qs[i]? = some q → ks[i]? = some t → SizeC q t w) (hql : qs.length ≤ 1000) (hk : a.kind ≤ 2) (hk' : kindOf a.kind = 98) :
    SizeC p ⟨a, ks⟩ w := by
  obtain ⟨p0, p1, p258, p259, p260, p261, p262, p263, pz⟩ := h.pt.facts
  have h0 := ha.min0
  have h1 := ha.min1
  have h2 := ha.max0
  have h3 := ha.max1
  have HIH : Hid (∀ (i q : Nat) (t : Tr), qs[i]? = some q → ks[i]? = some t → SizeC q t w) := hih
  have HA : Hid (Sp.LabOK a) := ha
  have HKS : Hid (Sp.TrsOK ks) := hks
  have HL : Hid (qs.length = ks.length) := hlen
  have q0 : w.cell? ⟨p, 0, none⟩ = some (.int .u8 (kindOf a.kind)) := p0
  have q1 : w.cell? ⟨p, 1, none⟩ = some l := p1
  have q262 : w.cell? ⟨p, 262, none⟩ = some (.int .i64 a.min) := p262
  have q263 : w.cell? ⟨p, 263, none⟩ = some (.int .i64 a.max) := p263
  have HB : Hid (0 ≤ Sp.szB a ∧ Sp.szB a ≤ 1) := by unfold Hid Sp.szB; split <;> omega
  clear p0 p1 p258 p259 p260 p261 p262 p263 pz ha hks hih hlen
  unfold SizeC
  rcases own_cells h.own with ⟨hl, hqs⟩ | ⟨g, cap, hl, hcap, hmax, hcell⟩
  · subst hl
    subst hqs
    have hks0 : ks = [] := List.eq_nil_of_length_eq_zero (by have := HL.out; simpa using this.symm)
    subst hks0
    clear h
    · have HS : Hid (Sp.sizes (Sp.szB a) [] = 1) := by show _ = _; rw [Sp.sizes]; unfold Sp.szB; rw [if_pos hk]
      rw [hk'] at q0
      clear hk'
      have HZ : Hid (Sp.size ⟨a, []⟩ = Sp.sz1 a 1) := by show Sp.sz1 a _ = _; rw [show Sp.sizes (Sp.szB a) [] = 1 from HS.out]
      have hk0 : a.kind ≠ 3 := by omega
      by_cases hm : a.min < 0
      · skip
        go_enter Tryd.func20, Tryd.ntmps20
        go_wp2_with fail
        refine wp_loop_rounds 1 ?_
        rw [rounds_succ]
        go_wp2_with fail
        all_goals
          go_ret
          exact ⟨ret_int (by rw [show Sp.size ⟨a, []⟩ = _ from HZ.out, sz_a (a := a) (show a.min < 0 by omega) hk0] <;> first | omega | (dsimp only; omega) | omega), rfl⟩
      by_cases hM : a.max < 0
      · by_cases h5 : 1 ≤ a.min
        · have HM : Hid (max a.min 1 = a.min) := by show _ = _; omega
          have hbd := mul_bd (S := 1) (m := a.min) (by omega) (by omega) (by omega) (by omega)
          go_enter Tryd.func20, Tryd.ntmps20
          go_wp2_with fail
          refine wp_loop_rounds 1 ?_
          rw [rounds_succ]
          go_wp2_with fail
          all_goals
            go_ret
            exact ⟨ret_int (by rw [show Sp.size ⟨a, []⟩ = _ from HZ.out, sz_b (a := a) (m := a.min) (show ¬ a.min < 0 by omega) (show a.max < 0 by omega) hk0 HM.out] <;> first | omega | (dsimp only; omega) | omega), rfl⟩
        · have HM : Hid (max a.min 1 = 1) := by show _ = _; omega
          go_enter Tryd.func20, Tryd.ntmps20
          go_wp2_with fail
          refine wp_loop_rounds 1 ?_
          rw [rounds_succ]
          go_wp2_with fail
          all_goals
            go_ret
            exact ⟨ret_int (by rw [show Sp.size ⟨a, []⟩ = _ from HZ.out, sz_b (a := a) (m := 1) (show ¬ a.min < 0 by omega) (show a.max < 0 by omega) hk0 HM.out] <;> first | omega | (dsimp only; omega) | omega), rfl⟩
      · have hbd := mul_bd (S := 1) (m := a.max) (by omega) (by omega) (by omega) (by omega)
        go_enter Tryd.func20, Tryd.ntmps20
        go_wp2_with fail
        refine wp_loop_rounds 1 ?_
        rw [rounds_succ]
        go_wp2_with fail
        all_goals
          go_ret
          exact ⟨ret_int (by rw [show Sp.size ⟨a, []⟩ = _ from HZ.out, sz_c (a := a) (show ¬ a.min < 0 by omega) (show ¬ a.max < 0 by omega) hk0] <;> first | omega | (dsimp only; omega) | omega), rfl⟩
  · subst hl
    clear h hcap hmax
    · have HB1 : Hid (Sp.szB a = 1) := by show _ = _; unfold Sp.szB; rw [if_pos hk]
      rw [hk'] at q0
      clear hk'
      go_enter Tryd.func20, Tryd.ntmps20
      go_wp2_with fail
      go_loop [3, 4] (fun n i => ∃ k : Nat, k ≤ qs.length ∧ i = .int .i64 k ∧ n = .int .i64 (Sp.sizes (Sp.szB a) (ks.take k))) (fun _ i => qs.length - (intOf i).toNat)
      case atStart => exact ⟨0, by omega, rfl, by rw [HB1.out, List.take_zero, Sp.sizes]⟩
      case round =>
        obtain ⟨k, hk1, rfl, rfl⟩ := hrel
        have hbd := Sp.sizes_bd (ks.take k) (Sp.szB a) (TrsOK_take HKS.out k) HB.out.1 (by have := HB.out.2; omega)
        by_cases hlt : k < qs.length
        · obtain ⟨q, hq⟩ : ∃ q, qs[k]? = some q := ⟨_, List.getElem?_eq_getElem hlt⟩
          obtain ⟨tk, ht⟩ : ∃ t, ks[k]? = some t := ⟨_, List.getElem?_eq_getElem (by have := HL.out; omega)⟩
          have hc := hcell k q hq
          unfold ptr at hc
          have HC : Hid (SizeC q tk w) := HIH.out k q tk hq ht
          have HN : Hid (Sp.sizes (Sp.szB a) (ks.take (k + 1)) = min (Sp.sizes (Sp.szB a) (ks.take k) + Sp.size tk) 1000000) := sizes_take _ ht
          have hT := Sp.TrsOK_mem ks tk HKS.out (List.mem_of_getElem? ht)
          have hbt := Sp.size_bd tk hT.1 hT.2
          clear hq ht hT hcell
          go_wp2_with fail
          have hcall := HC.out
          unfold SizeC at hcall
          refine hcall.mono ?_
          clear hcall
          rintro e w' ⟨rfl, hw'⟩
          subst hw'
          go_wp2_with fail
          all_goals
            go_round
            case rel => exact ⟨k + 1, by omega, by go_num, by rw [HN.out]; exact int_eq (by omega)⟩
            case measure => simp [intOf]; omega
        · have hS0 := hbd.1
          have hS1 := hbd.2
          have HS0 : Hid (Sp.sizes (Sp.szB a) ks = Sp.sizes (Sp.szB a) (ks.take k)) := by show _ = _; rw [List.take_of_length_le (by have := HL.out; omega)]
          clear hbd
          generalize hgS : Sp.sizes (Sp.szB a) (ks.take k) = S at *
          have HS : Hid (Sp.sizes (Sp.szB a) ks = S) := HS0.out
          clear hgS HS0 hcell
          have HZ : Hid (Sp.size ⟨a, ks⟩ = Sp.sz1 a S) := by show Sp.sz1 a _ = _; rw [show Sp.sizes (Sp.szB a) ks = S from HS.out]
          have hk0 : a.kind ≠ 3 := by omega
          by_cases hm : a.min < 0
          · skip
            go_wp2_with fail
            all_goals
              go_ret
              exact ⟨ret_int (by rw [show Sp.size ⟨a, ks⟩ = _ from HZ.out, sz_a (a := a) (show a.min < 0 by omega) hk0] <;> first | omega | (dsimp only; omega) | omega), rfl⟩
          by_cases hM : a.max < 0
          · by_cases h5 : 1 ≤ a.min
            · have HM : Hid (max a.min 1 = a.min) := by show _ = _; omega
              have hbd := mul_bd (S := S) (m := a.min) hS0 hS1 (by omega) (by omega)
              go_wp2_with fail
              all_goals
                go_ret
                exact ⟨ret_int (by rw [show Sp.size ⟨a, ks⟩ = _ from HZ.out, sz_b (a := a) (m := a.min) (show ¬ a.min < 0 by omega) (show a.max < 0 by omega) hk0 HM.out] <;> first | omega | (dsimp only; omega) | omega), rfl⟩
            · have HM : Hid (max a.min 1 = 1) := by show _ = _; omega
              go_wp2_with fail
              all_goals
                go_ret
                exact ⟨ret_int (by rw [show Sp.size ⟨a, ks⟩ = _ from HZ.out, sz_b (a := a) (m := 1) (show ¬ a.min < 0 by omega) (show a.max < 0 by omega) hk0 HM.out] <;> first | omega | (dsimp only; omega) | omega), rfl⟩
          · have hbd := mul_bd (S := S) (m := a.max) hS0 hS1 (by omega) (by omega)
            go_wp2_with fail
            all_goals
              go_ret
              exact ⟨ret_int (by rw [show Sp.size ⟨a, ks⟩ = _ from HZ.out, sz_c (a := a) (show ¬ a.min < 0 by omega) (show ¬ a.max < 0 by omega) hk0] <;> first | omega | (dsimp only; omega) | omega), rfl⟩

set_option maxHeartbeats 2000000 in
theorem size_40 (p : Nat) (a : Lab) (ks : List Tr) (l : Value) (qs : List Nat) (w : World) (h : NodeAt w p a l qs) (ha : Sp.LabOK a) (hks : Sp.TrsOK ks) (hlen : qs.length = ks.length) (hih : ∀ (i q : Nat) (t : Tr), qs[i]? = some q → ks[i]? = some t → SizeC q t w) (hql : qs.length ≤ 1000) (hk : a.kind = 3) (hk' : kindOf a.kind = 40) :
    SizeC p ⟨a, ks⟩ w := by
  obtain ⟨p0, p1, p258, p259, p260, p261, p262, p263, pz⟩ := h.pt.facts
  have h0 := ha.min0
  have h1 := ha.min1
  have h2 := ha.max0
  have h3 := ha.max1
  have HIH : Hid (∀ (i q : Nat) (t : Tr), qs[i]? = some q → ks[i]? = some t → SizeC q t w) := hih
  have HA : Hid (Sp.LabOK a) := ha
  have HKS : Hid (Sp.TrsOK ks) := hks
  have HL : Hid (qs.length = ks.length) := hlen
  have q0 : w.cell? ⟨p, 0, none⟩ = some (.int .u8 (kindOf a.kind)) := p0
  have q1 : w.cell? ⟨p, 1, none⟩ = some l := p1
  have q262 : w.cell? ⟨p, 262, none⟩ = some (.int .i64 a.min) := p262
  have q263 : w.cell? ⟨p, 263, none⟩ = some (.int .i64 a.max) := p263
  have HB : Hid (0 ≤ Sp.szB a ∧ Sp.szB a ≤ 1) := by unfold Hid Sp.szB; split <;> omega
  clear p0 p1 p258 p259 p260 p261 p262 p263 pz ha hks hih hlen
  unfold SizeC
  rcases own_cells h.own with ⟨hl, hqs⟩ | ⟨g, cap, hl, hcap, hmax, hcell⟩
  · subst hl
    subst hqs
    have hks0 : ks = [] := List.eq_nil_of_length_eq_zero (by have := HL.out; simpa using this.symm)
    subst hks0
    clear h
    · have HS : Hid (Sp.sizes (Sp.szB a) [] = 0) := by show _ = _; rw [Sp.sizes]; unfold Sp.szB; rw [if_neg (by omega)]
      rw [hk'] at q0
      clear hk'
      have HZ : Hid (Sp.size ⟨a, []⟩ = Sp.sz1 { a with kind := 0 } 1) := by show Sp.sz1 a _ = _; rw [show Sp.sizes (Sp.szB a) [] = 0 from HS.out, sz_g hk]; rfl
      have hk0 : ({ a with kind := 0 } : Lab).kind ≠ 3 := by simp
      by_cases hm : a.min < 0
      · skip
        go_enter Tryd.func20, Tryd.ntmps20
        go_wp2_with fail
        refine wp_loop_rounds 1 ?_
        rw [rounds_succ]
        go_wp2_with fail
        all_goals
          go_ret
          exact ⟨ret_int (by rw [show Sp.size ⟨a, []⟩ = _ from HZ.out, sz_a (a := { a with kind := 0 }) (show a.min < 0 by omega) hk0] <;> first | omega | (dsimp only; omega) | omega), rfl⟩
      by_cases hM : a.max < 0
      · by_cases h5 : 1 ≤ a.min
        · have HM : Hid (max a.min 1 = a.min) := by show _ = _; omega
          have hbd := mul_bd (S := 1) (m := a.min) (by omega) (by omega) (by omega) (by omega)
          go_enter Tryd.func20, Tryd.ntmps20
          go_wp2_with fail
          refine wp_loop_rounds 1 ?_
          rw [rounds_succ]
          go_wp2_with fail
          all_goals
            go_ret
            exact ⟨ret_int (by rw [show Sp.size ⟨a, []⟩ = _ from HZ.out, sz_b (a := { a with kind := 0 }) (m := a.min) (show ¬ a.min < 0 by omega) (show a.max < 0 by omega) hk0 HM.out] <;> first | omega | (dsimp only; omega) | omega), rfl⟩
        · have HM : Hid (max a.min 1 = 1) := by show _ = _; omega
          go_enter Tryd.func20, Tryd.ntmps20
          go_wp2_with fail
          refine wp_loop_rounds 1 ?_
          rw [rounds_succ]
          go_wp2_with fail
          all_goals
            go_ret
            exact ⟨ret_int (by rw [show Sp.size ⟨a, []⟩ = _ from HZ.out, sz_b (a := { a with kind := 0 }) (m := 1) (show ¬ a.min < 0 by omega) (show a.max < 0 by omega) hk0 HM.out] <;> first | omega | (dsimp only; omega) | omega), rfl⟩
      · have hbd := mul_bd (S := 1) (m := a.max) (by omega) (by omega) (by omega) (by omega)
        go_enter Tryd.func20, Tryd.ntmps20
        go_wp2_with fail
        refine wp_loop_rounds 1 ?_
        rw [rounds_succ]
        go_wp2_with fail
        all_goals
          go_ret
          exact ⟨ret_int (by rw [show Sp.size ⟨a, []⟩ = _ from HZ.out, sz_c (a := { a with kind := 0 }) (show ¬ a.min < 0 by omega) (show ¬ a.max < 0 by omega) hk0] <;> first | omega | (dsimp only; omega) | omega), rfl⟩
  · subst hl
    clear h hcap hmax
    · have HB1 : Hid (Sp.szB a = 0) := by show _ = _; unfold Sp.szB; rw [if_neg (by omega)]
      rw [hk'] at q0
      clear hk'
      go_enter Tryd.func20, Tryd.ntmps20
      go_wp2_with fail
      go_loop [3, 4] (fun n i => ∃ k : Nat, k ≤ qs.length ∧ i = .int .i64 k ∧ n = .int .i64 (Sp.sizes (Sp.szB a) (ks.take k))) (fun _ i => qs.length - (intOf i).toNat)
      case atStart => exact ⟨0, by omega, rfl, by rw [HB1.out, List.take_zero, Sp.sizes]⟩
      case round =>
        obtain ⟨k, hk1, rfl, rfl⟩ := hrel
        have hbd := Sp.sizes_bd (ks.take k) (Sp.szB a) (TrsOK_take HKS.out k) HB.out.1 (by have := HB.out.2; omega)
        by_cases hlt : k < qs.length
        · obtain ⟨q, hq⟩ : ∃ q, qs[k]? = some q := ⟨_, List.getElem?_eq_getElem hlt⟩
          obtain ⟨tk, ht⟩ : ∃ t, ks[k]? = some t := ⟨_, List.getElem?_eq_getElem (by have := HL.out; omega)⟩
          have hc := hcell k q hq
          unfold ptr at hc
          have HC : Hid (SizeC q tk w) := HIH.out k q tk hq ht
          have HN : Hid (Sp.sizes (Sp.szB a) (ks.take (k + 1)) = min (Sp.sizes (Sp.szB a) (ks.take k) + Sp.size tk) 1000000) := sizes_take _ ht
          have hT := Sp.TrsOK_mem ks tk HKS.out (List.mem_of_getElem? ht)
          have hbt := Sp.size_bd tk hT.1 hT.2
          clear hq ht hT hcell
          go_wp2_with fail
          have hcall := HC.out
          unfold SizeC at hcall
          refine hcall.mono ?_
          clear hcall
          rintro e w' ⟨rfl, hw'⟩
          subst hw'
          go_wp2_with fail
          all_goals
            go_round
            case rel => exact ⟨k + 1, by omega, by go_num, by rw [HN.out]; exact int_eq (by omega)⟩
            case measure => simp [intOf]; omega
        · have hS0 := hbd.1
          have hS1 := hbd.2
          have HS0 : Hid (Sp.sizes (Sp.szB a) ks = Sp.sizes (Sp.szB a) (ks.take k)) := by show _ = _; rw [List.take_of_length_le (by have := HL.out; omega)]
          clear hbd
          generalize hgS : Sp.sizes (Sp.szB a) (ks.take k) = S at *
          have HS : Hid (Sp.sizes (Sp.szB a) ks = S) := HS0.out
          clear hgS HS0 hcell
          have HZ : Hid (Sp.size ⟨a, ks⟩ = Sp.sz1 { a with kind := 0 } (max S 1)) := by show Sp.sz1 a _ = _; rw [show Sp.sizes (Sp.szB a) ks = S from HS.out, sz_g hk]
          have hk0 : ({ a with kind := 0 } : Lab).kind ≠ 3 := by simp
          by_cases hS2 : 1 ≤ S
          · have hmS : max S 1 = S := by omega
            rw [hmS] at HZ
            by_cases hm : a.min < 0
            · clear hmS; skip
              go_wp2_with fail
              all_goals
                go_ret
                exact ⟨ret_int (by rw [show Sp.size ⟨a, ks⟩ = _ from HZ.out, sz_a (a := { a with kind := 0 }) (show a.min < 0 by omega) hk0] <;> first | omega | (dsimp only; omega) | omega), rfl⟩
            by_cases hM : a.max < 0
            · by_cases h5 : 1 ≤ a.min
              · have HM : Hid (max a.min 1 = a.min) := by show _ = _; omega
                have hbd := mul_bd (S := S) (m := a.min) hS0 hS1 (by omega) (by omega)
                go_wp2_with fail
                all_goals
                  go_ret
                  exact ⟨ret_int (by rw [show Sp.size ⟨a, ks⟩ = _ from HZ.out, sz_b (a := { a with kind := 0 }) (m := a.min) (show ¬ a.min < 0 by omega) (show a.max < 0 by omega) hk0 HM.out] <;> first | omega | (dsimp only; omega) | omega), rfl⟩
              · have HM : Hid (max a.min 1 = 1) := by show _ = _; omega
                go_wp2_with fail
                all_goals
                  go_ret
                  exact ⟨ret_int (by rw [show Sp.size ⟨a, ks⟩ = _ from HZ.out, sz_b (a := { a with kind := 0 }) (m := 1) (show ¬ a.min < 0 by omega) (show a.max < 0 by omega) hk0 HM.out] <;> first | omega | (dsimp only; omega) | omega), rfl⟩
            · have hbd := mul_bd (S := S) (m := a.max) hS0 hS1 (by omega) (by omega)
              go_wp2_with fail
              all_goals
                go_ret
                exact ⟨ret_int (by rw [show Sp.size ⟨a, ks⟩ = _ from HZ.out, sz_c (a := { a with kind := 0 }) (show ¬ a.min < 0 by omega) (show ¬ a.max < 0 by omega) hk0] <;> first | omega | (dsimp only; omega) | omega), rfl⟩
          · have hmS : max S 1 = 1 := by omega
            rw [hmS] at HZ
            by_cases hm : a.min < 0
            · clear hmS; skip
              go_wp2_with fail
              all_goals
                go_ret
                exact ⟨ret_int (by rw [show Sp.size ⟨a, ks⟩ = _ from HZ.out, sz_a (a := { a with kind := 0 }) (show a.min < 0 by omega) hk0] <;> first | omega | (dsimp only; omega) | omega), rfl⟩
            by_cases hM : a.max < 0
            · by_cases h5 : 1 ≤ a.min
              · have HM : Hid (max a.min 1 = a.min) := by show _ = _; omega
                have hbd := mul_bd (S := 1) (m := a.min) (by omega) (by omega) (by omega) (by omega)
                go_wp2_with fail
                all_goals
                  go_ret
                  exact ⟨ret_int (by rw [show Sp.size ⟨a, ks⟩ = _ from HZ.out, sz_b (a := { a with kind := 0 }) (m := a.min) (show ¬ a.min < 0 by omega) (show a.max < 0 by omega) hk0 HM.out] <;> first | omega | (dsimp only; omega) | omega), rfl⟩
              · have HM : Hid (max a.min 1 = 1) := by show _ = _; omega
                go_wp2_with fail
                all_goals
                  go_ret
                  exact ⟨ret_int (by rw [show Sp.size ⟨a, ks⟩ = _ from HZ.out, sz_b (a := { a with kind := 0 }) (m := 1) (show ¬ a.min < 0 by omega) (show a.max < 0 by omega) hk0 HM.out] <;> first | omega | (dsimp only; omega) | omega), rfl⟩
            · have hbd := mul_bd (S := 1) (m := a.max) (by omega) (by omega) (by omega) (by omega)
              go_wp2_with fail
              all_goals
                go_ret
                exact ⟨ret_int (by rw [show Sp.size ⟨a, ks⟩ = _ from HZ.out, sz_c (a := { a with kind := 0 }) (show ¬ a.min < 0 by omega) (show ¬ a.max < 0 by omega) hk0] <;> first | omega | (dsimp only; omega) | omega), rfl⟩

set_option maxHeartbeats 2000000 in
theorem size_124 (p : Nat) (a : Lab) (ks : List Tr) (l : Value) (qs : List Nat) (w : World) (h : NodeAt w p a l qs) (ha : Sp.LabOK a) (hks : Sp.TrsOK ks) (hlen : qs.length = ks.length) (hih : ∀ (i q : Nat) (t : Tr), qs[i]? = some q → ks[i]? = some t → SizeC q t w) (hql : qs.length ≤ 1000) (hk : a.kind = 4) (hk' : kindOf a.kind = 124) :
    SizeC p ⟨a, ks⟩ w := by
  obtain ⟨p0, p1, p258, p259, p260, p261, p262, p263, pz⟩ := h.pt.facts
  have h0 := ha.min0
  have h1 := ha.min1
  have h2 := ha.max0
  have h3 := ha.max1
  have HIH : Hid (∀ (i q : Nat) (t : Tr), qs[i]? = some q → ks[i]? = some t → SizeC q t w) := hih
  have HA : Hid (Sp.LabOK a) := ha
  have HKS : Hid (Sp.TrsOK ks) := hks
  have HL : Hid (qs.length = ks.length) := hlen
  have q0 : w.cell? ⟨p, 0, none⟩ = some (.int .u8 (kindOf a.kind)) := p0
  have q1 : w.cell? ⟨p, 1, none⟩ = some l := p1
  have q262 : w.cell? ⟨p, 262, none⟩ = some (.int .i64 a.min) := p262
  have q263 : w.cell? ⟨p, 263, none⟩ = some (.int .i64 a.max) := p263
  have HB : Hid (0 ≤ Sp.szB a ∧ Sp.szB a ≤ 1) := by unfold Hid Sp.szB; split <;> omega
  clear p0 p1 p258 p259 p260 p261 p262 p263 pz ha hks hih hlen
  unfold SizeC
  rcases own_cells h.own with ⟨hl, hqs⟩ | ⟨g, cap, hl, hcap, hmax, hcell⟩
  · subst hl
    subst hqs
    have hks0 : ks = [] := List.eq_nil_of_length_eq_zero (by have := HL.out; simpa using this.symm)
    subst hks0
    clear h
    · have HS : Hid (Sp.sizes (Sp.szB a) [] = 0) := by show _ = _; rw [Sp.sizes]; unfold Sp.szB; rw [if_neg (by omega)]
      rw [hk'] at q0
      clear hk'
      have HZ : Hid (Sp.size ⟨a, []⟩ = Sp.sz1 a 0) := by show Sp.sz1 a _ = _; rw [show Sp.sizes (Sp.szB a) [] = 0 from HS.out]
      have hk0 : a.kind ≠ 3 := by omega
      by_cases hm : a.min < 0
      · skip
        go_enter Tryd.func20, Tryd.ntmps20
        go_wp2_with fail
        refine wp_loop_rounds 1 ?_
        rw [rounds_succ]
        go_wp2_with fail
        all_goals
          go_ret
          exact ⟨ret_int (by rw [show Sp.size ⟨a, []⟩ = _ from HZ.out, sz_a (a := a) (show a.min < 0 by omega) hk0] <;> first | omega | (dsimp only; omega) | omega), rfl⟩
      by_cases hM : a.max < 0
      · by_cases h5 : 1 ≤ a.min
        · have HM : Hid (max a.min 1 = a.min) := by show _ = _; omega
          have hbd := mul_bd (S := 0) (m := a.min) (by omega) (by omega) (by omega) (by omega)
          go_enter Tryd.func20, Tryd.ntmps20
          go_wp2_with fail
          refine wp_loop_rounds 1 ?_
          rw [rounds_succ]
          go_wp2_with fail
          all_goals
            go_ret
            exact ⟨ret_int (by rw [show Sp.size ⟨a, []⟩ = _ from HZ.out, sz_b (a := a) (m := a.min) (show ¬ a.min < 0 by omega) (show a.max < 0 by omega) hk0 HM.out] <;> first | omega | (dsimp only; omega) | omega), rfl⟩
        · have HM : Hid (max a.min 1 = 1) := by show _ = _; omega
          go_enter Tryd.func20, Tryd.ntmps20
          go_wp2_with fail
          refine wp_loop_rounds 1 ?_
          rw [rounds_succ]
          go_wp2_with fail
          all_goals
            go_ret
            exact ⟨ret_int (by rw [show Sp.size ⟨a, []⟩ = _ from HZ.out, sz_b (a := a) (m := 1) (show ¬ a.min < 0 by omega) (show a.max < 0 by omega) hk0 HM.out] <;> first | omega | (dsimp only; omega) | omega), rfl⟩
      · have hbd := mul_bd (S := 0) (m := a.max) (by omega) (by omega) (by omega) (by omega)
        go_enter Tryd.func20, Tryd.ntmps20
        go_wp2_with fail
        refine wp_loop_rounds 1 ?_
        rw [rounds_succ]
        go_wp2_with fail
        all_goals
          go_ret
          exact ⟨ret_int (by rw [show Sp.size ⟨a, []⟩ = _ from HZ.out, sz_c (a := a) (show ¬ a.min < 0 by omega) (show ¬ a.max < 0 by omega) hk0] <;> first | omega | (dsimp only; omega) | omega), rfl⟩
  · subst hl
    clear h hcap hmax
    · have HB1 : Hid (Sp.szB a = 0) := by show _ = _; unfold Sp.szB; rw [if_neg (by omega)]
      rw [hk'] at q0
      clear hk'
      go_enter Tryd.func20, Tryd.ntmps20
      go_wp2_with fail
      go_loop [3, 4] (fun n i => ∃ k : Nat, k ≤ qs.length ∧ i = .int .i64 k ∧ n = .int .i64 (Sp.sizes (Sp.szB a) (ks.take k))) (fun _ i => qs.length - (intOf i).toNat)
      case atStart => exact ⟨0, by omega, rfl, by rw [HB1.out, List.take_zero, Sp.sizes]⟩
      case round =>
        obtain ⟨k, hk1, rfl, rfl⟩ := hrel
        have hbd := Sp.sizes_bd (ks.take k) (Sp.szB a) (TrsOK_take HKS.out k) HB.out.1 (by have := HB.out.2; omega)
        by_cases hlt : k < qs.length
        · obtain ⟨q, hq⟩ : ∃ q, qs[k]? = some q := ⟨_, List.getElem?_eq_getElem hlt⟩
          obtain ⟨tk, ht⟩ : ∃ t, ks[k]? = some t := ⟨_, List.getElem?_eq_getElem (by have := HL.out; omega)⟩
          have hc := hcell k q hq
          unfold ptr at hc
          have HC : Hid (SizeC q tk w) := HIH.out k q tk hq ht
          have HN : Hid (Sp.sizes (Sp.szB a) (ks.take (k + 1)) = min (Sp.sizes (Sp.szB a) (ks.take k) + Sp.size tk) 1000000) := sizes_take _ ht
          have hT := Sp.TrsOK_mem ks tk HKS.out (List.mem_of_getElem? ht)
          have hbt := Sp.size_bd tk hT.1 hT.2
          clear hq ht hT hcell
          go_wp2_with fail
          have hcall := HC.out
          unfold SizeC at hcall
          refine hcall.mono ?_
          clear hcall
          rintro e w' ⟨rfl, hw'⟩
          subst hw'
          go_wp2_with fail
          all_goals
            go_round
            case rel => exact ⟨k + 1, by omega, by go_num, by rw [HN.out]; exact int_eq (by omega)⟩
            case measure => simp [intOf]; omega
        · have hS0 := hbd.1
          have hS1 := hbd.2
          have HS0 : Hid (Sp.sizes (Sp.szB a) ks = Sp.sizes (Sp.szB a) (ks.take k)) := by show _ = _; rw [List.take_of_length_le (by have := HL.out; omega)]
          clear hbd
          generalize hgS : Sp.sizes (Sp.szB a) (ks.take k) = S at *
          have HS : Hid (Sp.sizes (Sp.szB a) ks = S) := HS0.out
          clear hgS HS0 hcell
          have HZ : Hid (Sp.size ⟨a, ks⟩ = Sp.sz1 a S) := by show Sp.sz1 a _ = _; rw [show Sp.sizes (Sp.szB a) ks = S from HS.out]
          have hk0 : a.kind ≠ 3 := by omega
          by_cases hm : a.min < 0
          · skip
            go_wp2_with fail
            all_goals
              go_ret
              exact ⟨ret_int (by rw [show Sp.size ⟨a, ks⟩ = _ from HZ.out, sz_a (a := a) (show a.min < 0 by omega) hk0] <;> first | omega | (dsimp only; omega) | omega), rfl⟩
          by_cases hM : a.max < 0
          · by_cases h5 : 1 ≤ a.min
            · have HM : Hid (max a.min 1 = a.min) := by show _ = _; omega
              have hbd := mul_bd (S := S) (m := a.min) hS0 hS1 (by omega) (by omega)
              go_wp2_with fail
              all_goals
                go_ret
                exact ⟨ret_int (by rw [show Sp.size ⟨a, ks⟩ = _ from HZ.out, sz_b (a := a) (m := a.min) (show ¬ a.min < 0 by omega) (show a.max < 0 by omega) hk0 HM.out] <;> first | omega | (dsimp only; omega) | omega), rfl⟩
            · have HM : Hid (max a.min 1 = 1) := by show _ = _; omega
              go_wp2_with fail
              all_goals
                go_ret
                exact ⟨ret_int (by rw [show Sp.size ⟨a, ks⟩ = _ from HZ.out, sz_b (a := a) (m := 1) (show ¬ a.min < 0 by omega) (show a.max < 0 by omega) hk0 HM.out] <;> first | omega | (dsimp only; omega) | omega), rfl⟩
          · have hbd := mul_bd (S := S) (m := a.max) hS0 hS1 (by omega) (by omega)
            go_wp2_with fail
            all_goals
              go_ret
              exact ⟨ret_int (by rw [show Sp.size ⟨a, ks⟩ = _ from HZ.out, sz_c (a := a) (show ¬ a.min < 0 by omega) (show ¬ a.max < 0 by omega) hk0] <;> first | omega | (dsimp only; omega) | omega), rfl⟩

set_option maxHeartbeats 2000000 in
theorem size_32 (p : Nat) (a : Lab) (ks : List Tr) (l : Value) (qs : List Nat) (w : World) (h : NodeAt w p a l qs) (ha : Sp.LabOK a) (hks : Sp.TrsOK ks) (hlen : qs.length = ks.length) (hih : ∀ (i q : Nat) (t : Tr), qs[i]? = some q → ks[i]? = some t → SizeC q t w) (hql : qs.length ≤ 1000) (hk : a.kind = 5) (hk' : kindOf a.kind = 32) :
    SizeC p ⟨a, ks⟩ w := by
  obtain ⟨p0, p1, p258, p259, p260, p261, p262, p263, pz⟩ := h.pt.facts
  have h0 := ha.min0
  have h1 := ha.min1
  have h2 := ha.max0
  have h3 := ha.max1
  have HIH : Hid (∀ (i q : Nat) (t : Tr), qs[i]? = some q → ks[i]? = some t → SizeC q t w) := hih
  have HA : Hid (Sp.LabOK a) := ha
  have HKS : Hid (Sp.TrsOK ks) := hks
  have HL : Hid (qs.length = ks.length) := hlen
  have q0 : w.cell? ⟨p, 0, none⟩ = some (.int .u8 (kindOf a.kind)) := p0
  have q1 : w.cell? ⟨p, 1, none⟩ = some l := p1
  have q262 : w.cell? ⟨p, 262, none⟩ = some (.int .i64 a.min) := p262
  have q263 : w.cell? ⟨p, 263, none⟩ = some (.int .i64 a.max) := p263
  have HB : Hid (0 ≤ Sp.szB a ∧ Sp.szB a ≤ 1) := by unfold Hid Sp.szB; split <;> omega
  clear p0 p1 p258 p259 p260 p261 p262 p263 pz ha hks hih hlen
  unfold SizeC
  rcases own_cells h.own with ⟨hl, hqs⟩ | ⟨g, cap, hl, hcap, hmax, hcell⟩
  · subst hl
    subst hqs
    have hks0 : ks = [] := List.eq_nil_of_length_eq_zero (by have := HL.out; simpa using this.symm)
    subst hks0
    clear h
    · have HS : Hid (Sp.sizes (Sp.szB a) [] = 0) := by show _ = _; rw [Sp.sizes]; unfold Sp.szB; rw [if_neg (by omega)]
      rw [hk'] at q0
      clear hk'
      have HZ : Hid (Sp.size ⟨a, []⟩ = Sp.sz1 a 0) := by show Sp.sz1 a _ = _; rw [show Sp.sizes (Sp.szB a) [] = 0 from HS.out]
      have hk0 : a.kind ≠ 3 := by omega
      by_cases hm : a.min < 0
      · skip
        go_enter Tryd.func20, Tryd.ntmps20
        go_wp2_with fail
        refine wp_loop_rounds 1 ?_
        rw [rounds_succ]
        go_wp2_with fail
        all_goals
          go_ret
          exact ⟨ret_int (by rw [show Sp.size ⟨a, []⟩ = _ from HZ.out, sz_a (a := a) (show a.min < 0 by omega) hk0] <;> first | omega | (dsimp only; omega) | omega), rfl⟩
      by_cases hM : a.max < 0
      · by_cases h5 : 1 ≤ a.min
        · have HM : Hid (max a.min 1 = a.min) := by show _ = _; omega
          have hbd := mul_bd (S := 0) (m := a.min) (by omega) (by omega) (by omega) (by omega)
          go_enter Tryd.func20, Tryd.ntmps20
          go_wp2_with fail
          refine wp_loop_rounds 1 ?_
          rw [rounds_succ]
          go_wp2_with fail
          all_goals
            go_ret
            exact ⟨ret_int (by rw [show Sp.size ⟨a, []⟩ = _ from HZ.out, sz_b (a := a) (m := a.min) (show ¬ a.min < 0 by omega) (show a.max < 0 by omega) hk0 HM.out] <;> first | omega | (dsimp only; omega) | omega), rfl⟩
        · have HM : Hid (max a.min 1 = 1) := by show _ = _; omega
          go_enter Tryd.func20, Tryd.ntmps20
          go_wp2_with fail
          refine wp_loop_rounds 1 ?_
          rw [rounds_succ]
          go_wp2_with fail
          all_goals
            go_ret
            exact ⟨ret_int (by rw [show Sp.size ⟨a, []⟩ = _ from HZ.out, sz_b (a := a) (m := 1) (show ¬ a.min < 0 by omega) (show a.max < 0 by omega) hk0 HM.out] <;> first | omega | (dsimp only; omega) | omega), rfl⟩
      · have hbd := mul_bd (S := 0) (m := a.max) (by omega) (by omega) (by omega) (by omega)
        go_enter Tryd.func20, Tryd.ntmps20
        go_wp2_with fail
        refine wp_loop_rounds 1 ?_
        rw [rounds_succ]
        go_wp2_with fail
        all_goals
          go_ret
          exact ⟨ret_int (by rw [show Sp.size ⟨a, []⟩ = _ from HZ.out, sz_c (a := a) (show ¬ a.min < 0 by omega) (show ¬ a.max < 0 by omega) hk0] <;> first | omega | (dsimp only; omega) | omega), rfl⟩
  · subst hl
    clear h hcap hmax
    · have HB1 : Hid (Sp.szB a = 0) := by show _ = _; unfold Sp.szB; rw [if_neg (by omega)]
      rw [hk'] at q0
      clear hk'
      go_enter Tryd.func20, Tryd.ntmps20
      go_wp2_with fail
      go_loop [3, 4] (fun n i => ∃ k : Nat, k ≤ qs.length ∧ i = .int .i64 k ∧ n = .int .i64 (Sp.sizes (Sp.szB a) (ks.take k))) (fun _ i => qs.length - (intOf i).toNat)
      case atStart => exact ⟨0, by omega, rfl, by rw [HB1.out, List.take_zero, Sp.sizes]⟩
      case round =>
        obtain ⟨k, hk1, rfl, rfl⟩ := hrel
        have hbd := Sp.sizes_bd (ks.take k) (Sp.szB a) (TrsOK_take HKS.out k) HB.out.1 (by have := HB.out.2; omega)
        by_cases hlt : k < qs.length
        · obtain ⟨q, hq⟩ : ∃ q, qs[k]? = some q := ⟨_, List.getElem?_eq_getElem hlt⟩
          obtain ⟨tk, ht⟩ : ∃ t, ks[k]? = some t := ⟨_, List.getElem?_eq_getElem (by have := HL.out; omega)⟩
          have hc := hcell k q hq
          unfold ptr at hc
          have HC : Hid (SizeC q tk w) := HIH.out k q tk hq ht
          have HN : Hid (Sp.sizes (Sp.szB a) (ks.take (k + 1)) = min (Sp.sizes (Sp.szB a) (ks.take k) + Sp.size tk) 1000000) := sizes_take _ ht
          have hT := Sp.TrsOK_mem ks tk HKS.out (List.mem_of_getElem? ht)
          have hbt := Sp.size_bd tk hT.1 hT.2
          clear hq ht hT hcell
          go_wp2_with fail
          have hcall := HC.out
          unfold SizeC at hcall
          refine hcall.mono ?_
          clear hcall
          rintro e w' ⟨rfl, hw'⟩
          subst hw'
          go_wp2_with fail
          all_goals
            go_round
            case rel => exact ⟨k + 1, by omega, by go_num, by rw [HN.out]; exact int_eq (by omega)⟩
            case measure => simp [intOf]; omega
        · have hS0 := hbd.1
          have hS1 := hbd.2
          have HS0 : Hid (Sp.sizes (Sp.szB a) ks = Sp.sizes (Sp.szB a) (ks.take k)) := by show _ = _; rw [List.take_of_length_le (by have := HL.out; omega)]
          clear hbd
          generalize hgS : Sp.sizes (Sp.szB a) (ks.take k) = S at *
          have HS : Hid (Sp.sizes (Sp.szB a) ks = S) := HS0.out
          clear hgS HS0 hcell
          have HZ : Hid (Sp.size ⟨a, ks⟩ = Sp.sz1 a S) := by show Sp.sz1 a _ = _; rw [show Sp.sizes (Sp.szB a) ks = S from HS.out]
          have hk0 : a.kind ≠ 3 := by omega
          by_cases hm : a.min < 0
          · skip
            go_wp2_with fail
            all_goals
              go_ret
              exact ⟨ret_int (by rw [show Sp.size ⟨a, ks⟩ = _ from HZ.out, sz_a (a := a) (show a.min < 0 by omega) hk0] <;> first | omega | (dsimp only; omega) | omega), rfl⟩
          by_cases hM : a.max < 0
          · by_cases h5 : 1 ≤ a.min
            · have HM : Hid (max a.min 1 = a.min) := by show _ = _; omega
              have hbd := mul_bd (S := S) (m := a.min) hS0 hS1 (by omega) (by omega)
              go_wp2_with fail
              all_goals
                go_ret
                exact ⟨ret_int (by rw [show Sp.size ⟨a, ks⟩ = _ from HZ.out, sz_b (a := a) (m := a.min) (show ¬ a.min < 0 by omega) (show a.max < 0 by omega) hk0 HM.out] <;> first | omega | (dsimp only; omega) | omega), rfl⟩
            · have HM : Hid (max a.min 1 = 1) := by show _ = _; omega
              go_wp2_with fail
              all_goals
                go_ret
                exact ⟨ret_int (by rw [show Sp.size ⟨a, ks⟩ = _ from HZ.out, sz_b (a := a) (m := 1) (show ¬ a.min < 0 by omega) (show a.max < 0 by omega) hk0 HM.out] <;> first | omega | (dsimp only; omega) | omega), rfl⟩
          · have hbd := mul_bd (S := S) (m := a.max) hS0 hS1 (by omega) (by omega)
            go_wp2_with fail
            all_goals
              go_ret
              exact ⟨ret_int (by rw [show Sp.size ⟨a, ks⟩ = _ from HZ.out, sz_c (a := a) (show ¬ a.min < 0 by omega) (show ¬ a.max < 0 by omega) hk0] <;> first | omega | (dsimp only; omega) | omega), rfl⟩

theorem size_core (p : Nat) (a : Lab) (ks : List Tr) (l : Value) (qs : List Nat) (w : World) (h : NodeAt w p a l qs) (ha : Sp.LabOK a) (hks : Sp.TrsOK ks) (hlen : qs.length = ks.length) (hih : ∀ (i q : Nat) (t : Tr), qs[i]? = some q → ks[i]? = some t → SizeC q t w) (hql : qs.length ≤ 1000) : SizeC p ⟨a, ks⟩ w := by
  rcases kind_cases ha.kind with ⟨hk, hk'⟩ | ⟨hk, hk'⟩ | ⟨hk, hk'⟩ | ⟨hk, hk'⟩
  · exact size_98 p a ks l qs w h ha hks hlen hih hql hk hk'
  · exact size_40 p a ks l qs w h ha hks hlen hih hql hk hk'
  · exact size_124 p a ks l qs w h ha hks hlen hih hql hk hk'
  · exact size_32 p a ks l qs w h ha hks hlen hih hql hk hk'

theorem PartsAt_get {w : World} {S : Nat → Prop} : ∀ {ps : List Nat} {ts : List Tr} {i p : Nat} {t : Tr}, PartsAt w S ps ts → ps[i]? = some p → ts[i]? = some t → ∃ l qs, NodeAt w p t.lab l qs ∧ PartsAt w (fun k => S k ∧ p < k ∧ l.ownBlock ≠ some k) qs t.kids
  | [], _, _, _, _, _, h, _ => by simp at h
  | _ :: _, [], _, _, _, h, _, _ => (PartsAt_no2 h).elim
  | p :: ps, ⟨a, ks⟩ :: r, 0, q, t, h, h1, h2 => by
    simp at h1 h2; subst h1; subst h2
    rw [PartsAt_cons] at h
    obtain ⟨_, ⟨l, qs, h3, h4, _, h5⟩, _⟩ := h
    exact ⟨l, qs, ⟨h3, h4⟩, h5⟩
  | p :: ps, ⟨a, ks⟩ :: r, i + 1, q, t, h, h1, h2 => by
    rw [PartsAt_cons] at h
    exact PartsAt_get h.2.2 (by simpa using h1) (by simpa using h2)

theorem size_all {w : World} : ∀ (ts : List Tr) (S : Nat → Prop) (ps : List Nat), PartsAt w S ps ts → Sp.TrsOK ts → Few ts → ∀ (i p : Nat) (t : Tr), ps[i]? = some p → ts[i]? = some t → SizeC p t w
  | [], _, _, _, _, _, i, _, _, _, h => by simp at h
  | ⟨a, ks⟩ :: r, S, [], h, _, _, _, _, _, _, _ => (PartsAt_no1 h).elim
  | ⟨a, ks⟩ :: r, S, p :: ps, h, ho, hf, 0, q, t, h1, h2 => by
    simp at h1 h2; subst h1; subst h2
    rw [PartsAt_cons] at h
    rw [Sp.TrsOK] at ho
    rw [Few] at hf
    obtain ⟨_, ⟨l, qs, h3, h4, _, h5⟩, _⟩ := h
    have hl := PartsAt.length _ _ h5
    exact size_core p a ks l qs w ⟨h3, h4⟩ ho.1 ho.2.1 hl (fun i q t hq ht => size_all ks _ qs h5 ho.2.1 hf.2.1 i q t hq ht) (by omega)
  | ⟨a, ks⟩ :: r, S, p :: ps, h, ho, hf, i + 1, q, t, h1, h2 => by
    rw [PartsAt_cons] at h
    rw [Sp.TrsOK] at ho
    rw [Few] at hf
    exact size_all r S ps h.2.2 ho.2.2 hf.2.2 i q t (by simpa using h1) (by simpa using h2)
end Go.Proofs.YtcpfpnjkfahjcaaDoor
