import Derived.Test.YtcpfpnjkfahjcaaGreatH32
import Derived.Test.YtcpfpnjkfahjcaaGreatH47
import Derived.Maps.AppendAt
set_option linter.unusedSimpArgs false
set_option linter.unusedVariables false
namespace Go.Proofs.YtcpfpnjkfahjcaaGreat
open Go.RowKit

/-- The cells of spans. -/
def flat (n : Nat) (f : Nat → Int × Int) : List Value := (spArr n f).toList
theorem flat_length (n : Nat) (f : Nat → Int × Int) : (flat n f).length = n * 2 := by unfold flat; rw [Array.length_toList, spArr_size]; omega
theorem flat_get (n : Nat) (f : Nat → Int × Int) (i : Nat) : (flat n f)[i]? = if i < 2 * n then some (if i % 2 = 0 then .int .i64 (f (i / 2)).1 else .int .i64 (f (i / 2)).2) else none := by
  unfold flat; rw [Array.getElem?_toList, spArr_get]
theorem flat_congr {n : Nat} {f g : Nat → Int × Int} (h : ∀ k, k < n → f k = g k) : flat n f = flat n g := by unfold flat; rw [spArr_congr h]
theorem flat_cons (n : Nat) (f : Nat → Int × Int) : flat (n + 1) f = .int .i64 (f 0).1 :: .int .i64 (f 0).2 :: flat n (fun k => f (k + 1)) := by
  apply List.ext_getElem?
  intro i
  match i with
  | 0 => rw [flat_get, if_pos (by omega)]; rfl
  | 1 => rw [flat_get, if_pos (by omega)]; rfl
  | i + 2 =>
    rw [List.getElem?_cons_succ, List.getElem?_cons_succ, flat_get, flat_get]
    by_cases h : i < 2 * n
    · rw [if_pos h, if_pos (by omega), show (i + 2) / 2 = i / 2 + 1 by omega, show (i + 2) % 2 = i % 2 by omega]
    · rw [if_neg h, if_neg (by omega)]
theorem flat_append (n m : Nat) (f g : Nat → Int × Int) : flat n f ++ flat m g = flat (n + m) (fun k => if k < n then f k else g (k - n)) := by
  apply List.ext_getElem?
  intro i
  by_cases h : i < 2 * n
  · rw [List.getElem?_append_left (by rw [flat_length]; omega), flat_get, flat_get, if_pos h, if_pos (show i < 2 * (n + m) by omega)]
    have : i / 2 < n := by omega
    simp only [this, if_true]
  · rw [List.getElem?_append_right (by rw [flat_length]; omega), flat_length, flat_get, flat_get]
    by_cases h2 : i - n * 2 < 2 * m
    · rw [if_pos h2, if_pos (show i < 2 * (n + m) by omega), show (i - n * 2) % 2 = i % 2 by omega, show (i - n * 2) / 2 = i / 2 - n by omega]
      have : ¬ i / 2 < n := by omega
      simp only [this, if_false]
    · rw [if_neg h2, if_neg (show ¬ i < 2 * (n + m) by omega)]
theorem flat_zero (f : Nat → Int × Int) : flat 0 f = [] := List.eq_nil_of_length_eq_zero (by rw [flat_length])
theorem flat_one (a b : Int) : flat 1 (fun _ => (a, b)) = [.int .i64 a, .int .i64 b] := by rw [flat_cons, flat_zero]
theorem flat_list : ∀ (l : List (Int × Int)), l.flatMap (fun x => [Value.int .i64 x.1, .int .i64 x.2]) = flat l.length (fun k => l.getD k (0, 0))
  | [] => by rw [List.length_nil, flat_zero]; rfl
  | x :: r => by
    rw [List.flatMap_cons, List.length_cons, flat_cons, flat_list r]; rfl
theorem spArr_list (l : List (Int × Int)) : (l.flatMap (fun x => [Value.int .i64 x.1, .int .i64 x.2])).toArray = spArr l.length (fun k => l.getD k (0, 0)) := by
  rw [flat_list]; unfold flat; simp
/-- A list of one's own: nothing, or a block. -/
def SpL (w : World) (v : Value) (n : Nat) (f : Nat → Int × Int) : Prop := w.ownsRow 0 66 2 v n (flat n f)
theorem SpansAt.own {w : World} {g n : Nat} {f : Nat → Int × Int} (h : SpansAt w g n f) (hn : n ≤ 1000) : SpL w (spansV g n) n f :=
  ⟨flat_length n f, Or.inr ⟨g, n, spArr n f, rfl, Nat.zero_le _, h, Nat.le_refl _, by show n ≤ maxLen; unfold maxLen; omega, by rw [spArr_size]; omega, List.take_of_length_le (by rw [Array.length_toList, spArr_size]; omega)⟩⟩
theorem SpL.nil (w : World) (f : Nat → Int × Int) : SpL w (.slice none 0 0) 0 f := ⟨flat_length 0 f, Or.inl ⟨rfl, rfl⟩⟩
theorem SpL.form {w : World} {v : Value} {n : Nat} {f : Nat → Int × Int} (h : SpL w v n f) : (v = .slice none 0 0 ∧ n = 0) ∨ ∃ g cap, v = .slice (some ⟨g, 0, none⟩) n cap ∧ g < w.heap.size ∧ (∀ k, k < n → w.cell? ⟨g, k * 2, none⟩ = some (.int .i64 (f k).1)) ∧ (∀ k, k < n → w.cell? ⟨g, k * 2 + 1, none⟩ = some (.int .i64 (f k).2)) := by
  rcases h.2 with q | ⟨g, cap, cur, h1, _, h2, h3, h4, h5, h6⟩
  · exact Or.inl q
  · right
    have key : ∀ i, i < n * 2 → cur[i]? = (flat n f)[i]? := fun i hi => by
      rw [← h6, List.getElem?_take_of_lt hi, Array.getElem?_toList]
    refine ⟨g, cap, h1, lt_of_heap h2, fun k hk => ?_, fun k hk => ?_⟩
    · have e := key (k * 2) (by omega)
      rw [flat_get, if_pos (by omega), if_pos (by omega), show k * 2 / 2 = k by omega] at e
      simp [World.cell?, h2, e]
    · have e := key (k * 2 + 1) (by omega)
      rw [flat_get, if_pos (by omega), if_neg (by omega), show (k * 2 + 1) / 2 = k by omega] at e
      simp [World.cell?, h2, e]
theorem SpL.upd {w w' : World} {v : Value} {n : Nat} {f : Nat → Int × Int} (h : SpL w v n f) {l : List Nat} (u : Upd l w w') (hl : ∀ g, v.ownBlock = some g → g ∉ l) : SpL w' v n f :=
  ownsRow_same h (fun g hg hlt => u.block g hlt (hl g hg))
theorem SpL.congr {w : World} {v : Value} {n : Nat} {f g : Nat → Int × Int} (h : SpL w v n f) (k : ∀ c, c < n → f c = g c) : SpL w v n g := by
  unfold SpL at *; rw [← flat_congr k]; exact h

theorem eqSpan (a b c d : Int) (w : World) : (Op.equalIn 10000 66 (.agg #[.int .i64 a, .int .i64 b]) (.agg #[.int .i64 c, .int .i64 d])).run Tryz.prog w = .ok (decide ((a, b) = (c, d))) w := by
  have hS : Tryz.prog.underlying 66 = some (.struct (Tryz.prog.fieldsOf 66)) := by kernel_rfl
  have hp : Tryz.prog.stoodInHeld 66 = false := by kernel_rfl
  have u2 := Tryz.underlying3
  rw [show 10000 = 9999 + 1 from rfl, run_equalIn_agg w 9999 66 _ _ hS hp]
  simp only [Program.fieldsOf, Tryz.underlying66]
  go_simp
  try simp only [Result.andThen]
  by_cases h1 : a = c <;> by_cases h2 : b = d <;> simp [h1, h2]
theorem neqSpan (a b c d : Int) (w : World) : (binOp .neq 66 (.agg #[.int .i64 a, .int .i64 b]) (.agg #[.int .i64 c, .int .i64 d])).run Tryz.prog w = .ok (.bool (!decide ((a, b) = (c, d)))) w := by
  rw [run_neq_struct, eqSpan]; rfl
theorem eqlSpan (a b c d : Int) (w : World) : (binOp .eql 66 (.agg #[.int .i64 a, .int .i64 b]) (.agg #[.int .i64 c, .int .i64 d])).run Tryz.prog w = .ok (.bool (decide ((a, b) = (c, d)))) w := by
  rw [run_eql_struct, eqSpan]; rfl
/-- The same spans? -/
def sameB (n : Nat) (f : Nat → Int × Int) (m : Nat) (g : Nat → Int × Int) : Bool := n == m && (List.range n).all fun k => f k == g k
theorem sameB_iff (n : Nat) (f : Nat → Int × Int) (m : Nat) (g : Nat → Int × Int) : sameB n f m g = true ↔ n = m ∧ ∀ k, k < n → f k = g k := by
  unfold sameB; simp
theorem drewN2 (w : World) (a b : Nat) : (w.drewN a).drewN b = w.drewN (a + b) := by cases w; simp [World.drewN, Nat.add_assoc]
structure SmInv (w : World) (n : Nat) (f g : Nat → Int × Int) (gn : Nat) (v : Value) (wr : World) : Prop where
  st : ∃ c : Nat, v = .int .i64 c ∧ c + gn = n ∧ (∀ k, k < c → f k = g k) ∧ ∃ q, wr = w.drewN q
set_option maxHeartbeats 800000 in
theorem same_any (va vb : Value) (n m : Nat) (f g : Nat → Int × Int) (w : World) (ha : SpL w va n f) (hb : SpL w vb m g) (hn : n ≤ 1000) (hm : m ≤ 1000) :
    Calls Tryz.prog 10 #[va, vb] w fun e w' => e = .returned (.bool (sameB n f m g)) ∧ ∃ q, w' = w.drewN q := by
  have key : ∀ (pa pb : Option Addr) (ca cb : Nat), va = .slice pa n ca → vb = .slice pb m cb → (n ≠ m) → Calls Tryz.prog 10 #[va, vb] w fun e w' => e = .returned (.bool (sameB n f m g)) ∧ ∃ q, w' = w.drewN q := by
    intro pa pb ca cb e1 e2 hne
    subst e1 e2
    have HR : Hid (sameB n f m g = false) := by
      show _ = _
      cases hs : sameB n f m g with
      | false => rfl
      | true => exact absurd ((sameB_iff _ _ _ _).mp hs).1 hne
    have hne' : ¬ (n : Int) = m := by omega
    clear ha hb
    go_enter Tryz.func10, Tryz.ntmps10
    go_wp2_with fail
    go_ret
    exact ⟨ret_bool HR.out.symm, 0, rfl⟩
  by_cases hnm : n = m
  · subst hnm
    by_cases h0 : n = 0
    · subst h0
      obtain ⟨pa, ca, e1⟩ : ∃ pa ca, va = .slice pa 0 ca := by
        rcases ha.form with ⟨h, _⟩ | ⟨x, c, h, _⟩
        · exact ⟨none, 0, h⟩
        · exact ⟨_, c, h⟩
      obtain ⟨pb, cb, e2⟩ : ∃ pb cb, vb = .slice pb 0 cb := by
        rcases hb.form with ⟨h, _⟩ | ⟨x, c, h, _⟩
        · exact ⟨none, 0, h⟩
        · exact ⟨_, c, h⟩
      subst e1 e2
      clear ha hb key
      go_enter Tryz.func10, Tryz.ntmps10
      go_wp2_with fail
      refine wp_loop_rounds 1 ?_
      rw [rounds_succ]
      go_wp2_with fail
      go_ret
      exact ⟨ret_bool (by simp [sameB]), 0, rfl⟩
    · rcases ha.form with ⟨_, h⟩ | ⟨x, ca, e1, hx, a0, a1⟩
      · omega
      rcases hb.form with ⟨_, h⟩ | ⟨y, cb, e2, hy, b0, b1⟩
      · omega
      subst e1 e2
      clear ha hb key
      have HA0 : Hid (∀ k, k < n → w.cell? ⟨x, k * 2, none⟩ = some (.int .i64 (f k).1)) := a0
      have HA1 : Hid (∀ k, k < n → w.cell? ⟨x, k * 2 + 1, none⟩ = some (.int .i64 (f k).2)) := a1
      have HB0 : Hid (∀ k, k < n → w.cell? ⟨y, k * 2, none⟩ = some (.int .i64 (g k).1)) := b0
      have HB1 : Hid (∀ k, k < n → w.cell? ⟨y, k * 2 + 1, none⟩ = some (.int .i64 (g k).2)) := b1
      clear a0 a1 b0 b1
      go_enter Tryz.func10, Tryz.ntmps10
      go_wp2_with fail
      go_loopg [5] n (fun gn v wr => SmInv w n f g gn v wr)
      case atStart => exact ⟨0, rfl, by omega, by omega, 0, rfl⟩
      case round =>
        obtain ⟨c, rfl, hc, hcs, q, rfl⟩ := hrel.st
        have HC : Hid (∀ k, k < c → f k = g k) := hcs
        clear hcs
        by_cases hlt : c < n
        · have hlt' : (c : Int) < n := by omega
          have r0 := HA0.out c hlt
          have r1 := HA1.out c hlt
          have r2 := HB0.out c hlt
          have r3 := HB1.out c hlt
          have ne : ∀ w', (binOp .neq 66 (.agg #[.int .i64 (f c).1, .int .i64 (f c).2]) (.agg #[.int .i64 (g c).1, .int .i64 (g c).2])).run Tryz.prog w' = .ok (.bool (!decide (f c = g c))) w' := fun w' => neqSpan _ _ _ _ w'
          go_wp2_with fail
          go_quiet (fail)
          obtain ⟨gm, hgm⟩ : ∃ k, gk = k + 1 := ⟨gk - 1, by omega⟩
          by_cases heq : f c = g c
          · have hd : (!decide (f c = g c)) = false := by simp [heq]
            have RL : Hid (SmInv w n f g gm (.int .i64 ((c + 1 : Nat) : Int)) (w.drewN (q + nq))) := ⟨c + 1, rfl, by omega, fun k hk => by
              rcases (by omega : k = c ∨ k < c) with r | r
              · rw [r]; exact heq
              · exact HC.out k r, q + nq, rfl⟩
            rw [hd]
            clear hd heq ne
            go_wp2_with fail
            go_roundg gm
            case measure => omega
            case rel => exact RL.out
          · have hd : (!decide (f c = g c)) = true := by simp [heq]
            have HR : Hid (sameB n f n g = false) := by
              show _ = _
              cases hs : sameB n f n g with
              | false => rfl
              | true => exact absurd (((sameB_iff _ _ _ _).mp hs).2 c hlt) heq
            rw [hd]
            clear hd heq ne
            go_wp2_with fail
            go_ret
            exact ⟨ret_bool HR.out.symm, q + nq, drewN2 _ _ _⟩
        · have hlt' : ¬ (c : Int) < n := by omega
          have HR : Hid (sameB n f n g = true) := (sameB_iff _ _ _ _).mpr ⟨rfl, fun k hk => HC.out k (by omega)⟩
          go_wp2_with fail
          go_ret
          exact ⟨ret_bool HR.out.symm, q, rfl⟩
  · obtain ⟨pa, ca, e1⟩ : ∃ pa ca, va = .slice pa n ca := by
      rcases ha.form with ⟨h, h'⟩ | ⟨x, c, h, _⟩
      · exact ⟨none, 0, by rw [h, h']⟩
      · exact ⟨_, c, h⟩
    obtain ⟨pb, cb, e2⟩ : ∃ pb cb, vb = .slice pb m cb := by
      rcases hb.form with ⟨h, h'⟩ | ⟨x, c, h, _⟩
      · exact ⟨none, 0, by rw [h, h']⟩
      · exact ⟨_, c, h⟩
    exact key pa pb ca cb e1 e2 hnm
end Go.Proofs.YtcpfpnjkfahjcaaGreat

set_option linter.unusedSimpArgs false
set_option linter.unusedVariables false
namespace Go.Proofs.YtcpfpnjkfahjcaaGreat
open Go.RowKit

theorem rComp_yes (s : ByteArray) (t : Tr) (n : Int) (w : World) (hr : Sp.read s = .ok (t, n)) : Calls Tryz.prog 7 #[.string s] w fun e w' => ∃ p, e = .returned (.tuple #[.pointer (some ⟨p, 0, none⟩), .int .i64 0, .int .i64 0]) ∧ w.heap.size ≤ p ∧ RfPat w' p s t n.toNat ∧ Upd [] w w' := by
  refine (refCompile s w).mono ?_
  rintro e w' ⟨u, h⟩
  rw [hr] at h
  obtain ⟨p, h1, h2, h3⟩ := h
  have hn := Sp.read_num hr
  have h9 := (Sp.read_choice hr).2.2.2
  have en : ((n.toNat : Nat) : Int) = n := by omega
  obtain ⟨E, k, _, _, hk, _⟩ := Sp.read_means hr ByteArray.empty
  obtain ⟨g, cap, hrf, _⟩ := h3.rf (by omega)
  have hm := Sp.comp_most (Sp.read_made hr).1 (by have := Sp.read_nods hr; omega)
  rw [Sp.read_told hr] at hrf
  exact ⟨p, h1, h2, ⟨by rw [en]; exact hr, by omega, ⟨g, cap, by rw [en]; exact hrf⟩, by omega⟩, u⟩
theorem rComp_no (s : ByteArray) (e1 a1 : Int) (w : World) (hr : Sp.read s = .error (e1, a1)) : Calls Tryz.prog 7 #[.string s] w fun e w' => e = .returned (.tuple #[.pointer none, .int .i64 e1, .int .i64 a1]) ∧ Upd [] w w' := by
  refine (refCompile s w).mono ?_
  rintro e w' ⟨u, h⟩
  rw [hr] at h
  exact ⟨h, u⟩
theorem sComp_yes (s : ByteArray) (t : Tr) (n : Int) (w : World) (hr : Sp.read s = .ok (t, n)) : Calls Tryz.prog 6 #[.string s] w fun e w' => ∃ p, e = .returned (.tuple #[.pointer (some ⟨p, 0, none⟩), .int .i64 0, .int .i64 0]) ∧ w.heap.size ≤ p ∧ PatAt w' p t n.toNat ∧ Upd [] w w' := by
  refine (comp_any s w).mono ?_
  rintro e w' ⟨u, h⟩
  rw [hr] at h
  obtain ⟨p, h1, h2, h3⟩ := h
  exact ⟨p, h1, h2, h3, u⟩
theorem sComp_no (s : ByteArray) (e1 a1 : Int) (w : World) (hr : Sp.read s = .error (e1, a1)) : Calls Tryz.prog 6 #[.string s] w fun e w' => e = .returned (.tuple #[.pointer none, .int .i64 e1, .int .i64 a1]) ∧ Upd [] w w' := by
  refine (comp_any s w).mono ?_
  rintro e w' ⟨u, h⟩
  rw [hr] at h
  exact ⟨h, u⟩
set_option maxRecDepth 8000 in
set_option maxHeartbeats 800000 in
theorem rMatch_long (p : Nat) (S : ByteArray) (w : World) (hS : 100 < S.size) : Calls Tryz.prog 9 #[.pointer (some ⟨p, 0, none⟩), .string S] w fun e w' => e = .returned (.tuple #[.slice none 0 0, .int .i64 2]) ∧ Upd [] w w' := by
  have hS' : (100 : Int) < S.size := by omega
  go_enter Tryz.func9, Tryz.ntmps9
  go_wp2_with fail
  go_ret2
  exact ⟨rfl, Upd.refl _ _⟩
set_option maxRecDepth 8000 in
set_option maxHeartbeats 800000 in
theorem rMatch_nil (S : ByteArray) (w : World) : Calls Tryz.prog 9 #[.pointer none, .string S] w fun e w' => e = .returned (.tuple #[.slice none 0 0, .int .i64 1]) ∧ Upd [] w w' := by
  go_enter Tryz.func9, Tryz.ntmps9
  go_wp2_with fail
  go_ret2
  exact ⟨rfl, Upd.refl _ _⟩
set_option maxRecDepth 8000 in
set_option maxHeartbeats 800000 in
theorem rLongest_long (p : Nat) (S : ByteArray) (w : World) (hS : 100 < S.size) : Calls Tryz.prog 13 #[.pointer (some ⟨p, 0, none⟩), .string S] w fun e w' => e = .returned (.tuple #[.int .i64 0, .slice none 0 0, .int .i64 2]) ∧ Upd [] w w' := by
  have hS' : (100 : Int) < S.size := by omega
  go_enter Tryz.func13, Tryz.ntmps13
  go_wp2_with fail
  go_ret3
  exact ⟨rfl, Upd.refl _ _⟩
set_option maxRecDepth 8000 in
set_option maxHeartbeats 800000 in
theorem rLongest_nil (S : ByteArray) (w : World) : Calls Tryz.prog 13 #[.pointer none, .string S] w fun e w' => e = .returned (.tuple #[.int .i64 0, .slice none 0 0, .int .i64 1]) ∧ Upd [] w w' := by
  go_enter Tryz.func13, Tryz.ntmps13
  go_wp2_with fail
  go_ret3
  exact ⟨rfl, Upd.refl _ _⟩
set_option maxRecDepth 8000 in
set_option maxHeartbeats 800000 in
theorem refuses_not (v : Option Addr) (S : ByteArray) (w : World) (h : (∃ p, v = some ⟨p, 0, none⟩ ∧ 100 < S.size) ∨ v = none) : Calls Tryz.prog 25 #[.pointer v, .string S] w fun e w' => e = .returned (.int .i64 (if v.isNone then 1 else 2)) ∧ w' = w := by
  rcases h with ⟨p, rfl, hS⟩ | rfl
  · have hS' : (100 : Int) < S.size := by omega
    go_enter Tryz.func25, Tryz.ntmps25
    go_wp2_with fail
    go_ret
    exact ⟨rfl, rfl⟩
  · go_enter Tryz.func25, Tryz.ntmps25
    go_wp2_with fail
    go_ret
    exact ⟨rfl, rfl⟩
set_option maxRecDepth 8000 in
set_option maxHeartbeats 800000 in
theorem sMatch_not (v : Option Addr) (S : ByteArray) (w : World) (h : (∃ p, v = some ⟨p, 0, none⟩ ∧ 100 < S.size) ∨ v = none) : Calls Tryz.prog 8 #[.pointer v, .string S] w fun e w' => e = .returned (.tuple #[.slice none 0 0, .int .i64 (if v.isNone then 1 else 2)]) ∧ Upd [] w w' := by
  have H : Hid ((∃ p, v = some ⟨p, 0, none⟩ ∧ 100 < S.size) ∨ v = none) := h
  clear h
  have hne : ¬ ((if v.isNone then (1 : Int) else 2) = 0) := by split <;> decide
  obtain ⟨c, hc⟩ : ∃ c, c = (if v.isNone then (1 : Int) else 2) := ⟨_, rfl⟩
  have HC : Hid (c = (if v.isNone then (1 : Int) else 2)) := hc
  rw [← hc] at hne ⊢
  clear hc
  go_enter Tryz.func8, Tryz.ntmps8
  go_wp2_with fail
  refine (refuses_not v S _ H.out).mono ?_
  rintro e w1 ⟨rfl, rfl⟩
  rw [← HC.out]
  go_wp2_with fail
  go_ret2
  exact ⟨rfl, Upd.refl _ _⟩
set_option maxRecDepth 8000 in
set_option maxHeartbeats 800000 in
theorem sLongest_not (v : Option Addr) (S : ByteArray) (w : World) (h : (∃ p, v = some ⟨p, 0, none⟩ ∧ 100 < S.size) ∨ v = none) : Calls Tryz.prog 12 #[.pointer v, .string S] w fun e w' => e = .returned (.tuple #[.int .i64 0, .slice none 0 0, .int .i64 (if v.isNone then 1 else 2)]) ∧ Upd [] w w' := by
  have H : Hid ((∃ p, v = some ⟨p, 0, none⟩ ∧ 100 < S.size) ∨ v = none) := h
  clear h
  have hne : ¬ ((if v.isNone then (1 : Int) else 2) = 0) := by split <;> decide
  obtain ⟨c, hc⟩ : ∃ c, c = (if v.isNone then (1 : Int) else 2) := ⟨_, rfl⟩
  have HC : Hid (c = (if v.isNone then (1 : Int) else 2)) := hc
  rw [← hc] at hne ⊢
  clear hc
  go_enter Tryz.func12, Tryz.ntmps12
  go_wp2_with fail
  refine (refuses_not v S _ H.out).mono ?_
  rintro e w1 ⟨rfl, rfl⟩
  rw [← HC.out]
  go_wp2_with fail
  go_ret3
  exact ⟨rfl, Upd.refl _ _⟩
end Go.Proofs.YtcpfpnjkfahjcaaGreat

set_option linter.unusedSimpArgs false
set_option linter.unusedVariables false
namespace Go.Proofs.YtcpfpnjkfahjcaaGreat
open Go.RowKit

section
variable {P : Program}
/-- An append, and that all stays where the new list lies elsewhere. -/
theorem run_append_more (w : World) (base : Nat) (t ty e : TypeId) (i : TypeInfo) (z : Value) (size bytes : Nat) (ht : P.underlying t = some (.slice e)) (hi : P.info? e = some i) (hz : i.zero = some z)
    (hsize : i.size = size) (hby : i.bytes = bytes) (hzs : z.cells.size = size) (hsz : 0 < size)
    (v : Value) (n : Nat) (xs : List Value) (hown : w.ownsRow base e size v n xs)
    (a : Addr) (m c : Nat) (news : List Value) (hl : news.length = m * size) (hnews : ∀ j u, news[j]? = some u → w.cell? (a.add j) = some u) (h1 : ∀ u ∈ news, u.oneCell' = true)
    (h63 : n + m ≤ maxLen) (hbytes : (n + m) * bytes ≤ 140737488355328) (hbase : base ≤ w.heap.size) :
    ∃ v' w', (Builtin.append_ #[t, t] ty #[v, .slice (some a) m c]).run P w = .ok v' w' ∧ w'.ownsRow base e size v' (n + m) (xs ++ news) ∧ w.grownBy w' v.ownBlock ∧ (v'.ownBlock = v.ownBlock ∨ (v'.ownBlock = some w.heap.size ∧ w.grownBy w' none)) := by
  obtain ⟨v', w', hr, h2, h3, h4, h5⟩ := run_append_own_at (P := P) w base t ty e i z size bytes ht hi hz hsize hby hzs hsz v n xs hown a m c news hl hnews h1 h63 hbytes hbase
  refine ⟨v', w', hr, h2, h3, ?_⟩
  rcases h5 with q | q
  · exact Or.inl q
  · refine Or.inr ⟨q, ?_⟩
    rcases hown.2 with ⟨rfl, _⟩ | ⟨g, cap, cur, rfl, hbg, hg, hnc, hcm, hcs, htake⟩
    · exact h3
    · subst hsize hby
      by_cases hroom : n + m ≤ cap
      · have hfit : n * i.size + news.length ≤ cur.size := by rw [hl, hcs, ← Nat.add_mul]; exact Nat.mul_le_mul_right _ hroom
        have hr' := run_append_room (P := P) w t ty e i ht hi g n cap cur hg a m c news hl hnews h1 hroom hfit
        rw [hr'] at hr
        injection hr with e1 e2
        subst e1
        have hlt := lt_of_heap hg
        simp [Value.ownBlock] at q
        omega
      · have holds : ∀ j u, xs[j]? = some u → w.cell? ((⟨g, 0, none⟩ : Addr).add j) = some u := hown.cells (g := g) rfl
        have hr' := run_append_grow (P := P) w t ty e i z ht hi hz ⟨g, 0, none⟩ n cap xs hown.1 holds a m c news hl hnews (by omega) (by unfold maxLen at h63; omega) (growslice_fits (by omega) hbytes)
        rw [hr'] at hr
        injection hr with e1 e2
        subst e2
        exact ⟨rfl, rfl, rfl, by simp, fun k hk _ => heap_alloc_old w.drew _ hk⟩
theorem wpList_append_more (w : World) {ops : Array Oper} {rest : List Oper} {o : Oper} {a : Act} {Q : Exit → Act → World → Prop} (hgd : o.guard = none) (s x : Operand) (t : TypeId)
    (ho : o.op = .call { callee := .builtin .append, args := #[s, x], argTypes := #[t, t] })
    (base : Nat) (e : TypeId) (i : TypeInfo) (z : Value) (size bytes : Nat) (ht : P.underlying t = some (.slice e)) (hi : P.info? e = some i) (hz : i.zero = some z)
    (hsize : i.size = size) (hby : i.bytes = bytes) (hzs : z.cells.size = size) (hsz : 0 < size)
    (v : Value) (n : Nat) (xs : List Value) (hs : a.eval s = v) (hown : w.ownsRow base e size v n xs)
    (ad : Addr) (m c : Nat) (news : List Value) (hx : a.eval x = .slice (some ad) m c) (hl : news.length = m * size) (hnews : ∀ j u, news[j]? = some u → w.cell? (ad.add j) = some u) (h1 : ∀ u ∈ news, u.oneCell' = true)
    (h63 : n + m ≤ maxLen) (hbytes : (n + m) * bytes ≤ 140737488355328) (hbase : base ≤ w.heap.size)
    (h : ∀ v' w', w'.ownsRow base e size v' (n + m) (xs ++ news) → w.grownBy w' v.ownBlock → (v'.ownBlock = v.ownBlock ∨ (v'.ownBlock = some w.heap.size ∧ w.grownBy w' none)) → wpList P ops Q rest (a.put o.dst v') w') :
    wpList P ops Q (o :: rest) a w := by
  refine wpList_plain hgd fun K hK => ?_
  obtain ⟨v', w', hr, h2, h3, h5⟩ := run_append_more (P := P) w base t o.type e i z size bytes ht hi hz hsize hby hzs hsz v n xs hown ad m c news hl hnews h1 h63 hbytes hbase
  unfold Oper.wp execOp
  simp only [ho, resolve, invoke, builtin, Sem.run_bind, Sem.run_pure, Result.andThen_ok, List.map_toArray, List.map_cons, List.map_nil, hs, hx, hr]
  exact hK _ _ (h v' w' h2 h3 h5)
end
/-- Spans of one's own, from one place on. -/
def SpO (w : World) (b : Nat) (v : Value) (n : Nat) (f : Nat → Int × Int) : Prop := w.ownsRow b 66 2 v n (flat n f)
theorem SpO.l {w : World} {b : Nat} {v : Value} {n : Nat} {f : Nat → Int × Int} (h : SpO w b v n f) : SpL w v n f := by
  refine ⟨h.1, ?_⟩
  rcases h.2 with q | ⟨g, cap, cur, e1, e2, e3⟩
  · exact Or.inl q
  · exact Or.inr ⟨g, cap, cur, e1, Nat.zero_le _, e3⟩
theorem SpO.upd {w w' : World} {b : Nat} {v : Value} {n : Nat} {f : Nat → Int × Int} (h : SpO w b v n f) {l : List Nat} (u : Upd l w w') (hl : ∀ g, v.ownBlock = some g → g ∉ l) : SpO w' b v n f := ownsRow_same h (fun k hk hlt => u.block k hlt (hl k hk))
theorem low_upd {wc w w' : World} {l : List Nat} (u : Upd [] wc w) (k : Upd l w w') (hl : ∀ q, q ∈ l → wc.heap.size ≤ q) : Upd [] wc w' :=
  ⟨k.os.trans u.os, k.tape.trans u.tape, k.output.trans u.output, Nat.le_trans u.size k.size, fun q hq hn => (k.block q (Nat.lt_of_lt_of_le hq u.size) (fun hm => by have := hl q hm; omega)).trans (u.block q hq hn)⟩
theorem low_grown {wc w w' : World} {row : Option Nat} (u : Upd [] wc w) (g : w.grownBy w' row) (hr : ∀ q, row = some q → wc.heap.size ≤ q) : Upd [] wc w' := low_upd u (Upd.of_grown g) (fun q hq => hr q (by simpa using hq))
/-- A list that is full of a mark. -/
def Ent (w : World) (v : Value) (z : Int) : Prop := (∃ c, v = .slice none 0 c) ∨ ∃ g n cap cur, v = .slice (some ⟨g, 0, none⟩) n cap ∧ (n ≤ cap ∧ cap ≤ maxLen) ∧ w.heap[g]? = some (.cells cur 66 (0, 0)) ∧ cur.toList.take (n * 2) = flat n (fun _ => (z, 0))
def vLen : Value → Nat
  | .slice _ n _ => n
  | _ => 0
/-- What is not written of, or behind its end, is as it was. -/
theorem Ent.keep {w w' : World} {v : Value} {z : Int} (h : Ent w v z) (hk : ∀ g cur, v.ownBlock = some g → w.heap[g]? = some (.cells cur 66 (0, 0)) → ∃ cur', w'.heap[g]? = some (.cells cur' 66 (0, 0)) ∧ cur'.toList.take (vLen v * 2) = cur.toList.take (vLen v * 2)) : Ent w' v z := by
  rcases h with h | ⟨g, n, cap, cur, rfl, h1, h2, h3⟩
  · exact Or.inl h
  · obtain ⟨cur', e1, e2⟩ := hk g cur rfl h2
    exact Or.inr ⟨g, n, cap, cur', rfl, h1, e1, e2.trans h3⟩
theorem Ent.upd {w w' : World} {v : Value} {z : Int} {l : List Nat} (h : Ent w v z) (u : Upd l w w') (hl : ∀ g, v.ownBlock = some g → g ∉ l) : Ent w' v z :=
  h.keep fun g cur hg hc => ⟨cur, (u.block g (lt_of_heap hc) (hl g hg)).trans hc, rfl⟩
theorem SpL.ent {w : World} {v : Value} {n : Nat} {z : Int} (h : SpL w v n (fun _ => (z, 0))) : Ent w v z := by
  rcases h.2 with ⟨q, _⟩ | ⟨g, cap, cur, rfl, _, hg, h1, hcm, _, h2⟩
  · exact Or.inl ⟨0, q⟩
  · exact Or.inr ⟨g, n, cap, cur, rfl, ⟨h1, hcm⟩, hg, h2⟩
/-- The books, as they lie. -/
structure BkAt (wc w : World) (b k : Nat) (n : Int) (vS vN vR vQ : Value) (es : List (Value × Int)) : Prop where
  cell : w.heap[b]? = some (.cells #[.int .i64 n, vS, vN, vR, vQ] 36 (0, 0))
  s : w.ownsRow wc.heap.size 37 1 vS k (es.map (·.1))
  n : w.ownsRow wc.heap.size 3 1 vN k (es.map fun x => .int .i64 x.2)
  up : Upd [] wc w
  bb : wc.heap.size ≤ b
  ent : ∀ x ∈ es, Ent w x.1 x.2
  one : ∀ x ∈ es, x.1.oneCell' = true
end Go.Proofs.YtcpfpnjkfahjcaaGreat

set_option linter.unusedSimpArgs false
set_option linter.unusedVariables false
namespace Go.Proofs.YtcpfpnjkfahjcaaGreat
open Go.RowKit

theorem own_tyC {w : World} {base k n : Nat} {T : TypeId} {z : Nat} {v : Value} {xs : List Value} (h : w.ownsRow base T z v n xs) (hk : v.ownBlock = some k) : ∃ a, w.heap[k]? = some (.cells a T (0, 0)) := by
  rcases h.2 with ⟨q, _⟩ | ⟨g, cap, cur, rfl, _, e3, _⟩
  · subst q; cases hk
  · simp [Value.ownBlock] at hk; subst hk; exact ⟨_, e3⟩
theorem ty_neC {w : World} {k q : Nat} {T U : TypeId} {a c : Array Value} (h : w.heap[k]? = some (.cells a T (0, 0))) (h' : w.heap[q]? = some (.cells c U (0, 0))) (hT : T ≠ U) : k ≠ q := by
  rintro rfl
  rw [h] at h'
  injection h' with h'
  injection h' with _ h' _
  exact hT h'
theorem Ent.ty {w : World} {v : Value} {z : Int} (h : Ent w v z) {g : Nat} (hg : v.ownBlock = some g) : ∃ a, w.heap[g]? = some (.cells a 66 (0, 0)) := by
  rcases h with ⟨c, q⟩ | ⟨g', n', cap', cur', q, _, q2, _⟩
  · rw [q] at hg; cases hg
  · rw [q] at hg; simp [Value.ownBlock] at hg; subst hg; exact ⟨_, q2⟩
/-- The books while a list is taken in: what the cell holds, and what the rows are. -/
structure BcAt (wc w : World) (b M : Nat) (n z : Int) (cS cN vR vQ vS vN : Value) (kS kN : Nat) (xs ys : List Value) (es : List (Value × Int)) (vl : Value) (ln : Nat) : Prop where
  cell : w.heap[b]? = some (.cells #[.int .i64 n, cS, cN, vR, vQ] 36 (0, 0))
  s : w.ownsRow wc.heap.size 37 1 vS kS xs
  n : w.ownsRow wc.heap.size 3 1 vN kN ys
  ent : ∀ x ∈ es, Ent w x.1 x.2
  far : ∀ x ∈ es, ∀ g, x.1.ownBlock = some g → vl.ownBlock = some g → vLen x.1 ≤ ln
  mark : w.heap[M]? = some (.cells #[.int .i64 z, .int .i64 0] 66 (0, 0))
  notM : ∀ x ∈ es, x.1.ownBlock ≠ some M
  lM : vl.ownBlock ≠ some M
  l : SpO w wc.heap.size vl ln (fun _ => (z, 0))
  up : Upd [] wc w
  bb : wc.heap.size ≤ b
theorem BcAt.upd {wc w w' : World} {b M : Nat} {n z : Int} {cS cN vR vQ vS vN : Value} {kS kN : Nat} {xs ys : List Value} {es : List (Value × Int)} {vl : Value} {ln : Nat} (h : BcAt wc w b M n z cS cN vR vQ vS vN kS kN xs ys es vl ln) (u : Upd [] w w') : BcAt wc w' b M n z cS cN vR vQ vS vN kS kN xs ys es vl ln :=
  ⟨(u.block b (lt_of_heap h.cell) (by simp)).trans h.cell, ownsRow_same h.s (fun q _ hlt => u.block q hlt (by simp)), ownsRow_same h.n (fun q _ hlt => u.block q hlt (by simp)), fun x hx => (h.ent x hx).upd u (by simp), h.far, (u.block M (lt_of_heap h.mark) (by simp)).trans h.mark, h.notM, h.lM, h.l.upd u (by simp), h.up.trans u, h.bb⟩
/-- A row of lists is longer. -/
theorem BcAt.moreS {wc w w' : World} {b M : Nat} {n z : Int} {cS cN vR vQ vS vN vS' : Value} {kS kN kS' : Nat} {xs ys xs' : List Value} {es : List (Value × Int)} {vl : Value} {ln : Nat} (h : BcAt wc w b M n z cS cN vR vQ vS vN kS kN xs ys es vl ln) (g : w.grownBy w' vS.ownBlock) (hs : w'.ownsRow wc.heap.size 37 1 vS' kS' xs') : BcAt wc w' b M n z cS cN vR vQ vS' vN kS' kN xs' ys es vl ln := by
  have u := Upd.of_grown g
  have hty : ∀ {q : Nat} {a : Array Value} {T : TypeId}, w.heap[q]? = some (.cells a T (0, 0)) → T ≠ 37 → q ∉ vS.ownBlock.toList := fun {q a T} hq hT hm => by
    obtain ⟨c, hc⟩ := own_tyC h.s (k := q) (by simpa using hm)
    exact ty_neC hq hc hT rfl
  refine ⟨(u.block b (lt_of_heap h.cell) (hty h.cell (by decide))).trans h.cell, hs, ownsRow_same h.n (fun q hq hlt => u.block q hlt ?_), fun x hx => (h.ent x hx).upd u (fun q hq => ?_), h.far, (u.block M (lt_of_heap h.mark) (hty h.mark (by decide))).trans h.mark, h.notM, h.lM, h.l.upd u (fun q hq => ?_), low_grown h.up g (fun q hq => (ownBlock_lt h.s hq).2), h.bb⟩
  · obtain ⟨a, ha⟩ := own_tyC h.n hq; exact hty ha (by decide)
  · obtain ⟨a, ha⟩ := (h.ent x hx).ty hq; exact hty ha (by decide)
  · obtain ⟨a, ha⟩ := own_tyC h.l hq; exact hty ha (by decide)
theorem BcAt.moreN {wc w w' : World} {b M : Nat} {n z : Int} {cS cN vR vQ vS vN vN' : Value} {kS kN kN' : Nat} {xs ys ys' : List Value} {es : List (Value × Int)} {vl : Value} {ln : Nat} (h : BcAt wc w b M n z cS cN vR vQ vS vN kS kN xs ys es vl ln) (g : w.grownBy w' vN.ownBlock) (hs : w'.ownsRow wc.heap.size 3 1 vN' kN' ys') : BcAt wc w' b M n z cS cN vR vQ vS vN' kS kN' xs ys' es vl ln := by
  have u := Upd.of_grown g
  have hty : ∀ {q : Nat} {a : Array Value} {T : TypeId}, w.heap[q]? = some (.cells a T (0, 0)) → T ≠ 3 → q ∉ vN.ownBlock.toList := fun {q a T} hq hT hm => by
    obtain ⟨c, hc⟩ := own_tyC h.n (k := q) (by simpa using hm)
    exact ty_neC hq hc hT rfl
  refine ⟨(u.block b (lt_of_heap h.cell) (hty h.cell (by decide))).trans h.cell, ownsRow_same h.s (fun q hq hlt => u.block q hlt ?_), hs, fun x hx => (h.ent x hx).upd u (fun q hq => ?_), h.far, (u.block M (lt_of_heap h.mark) (hty h.mark (by decide))).trans h.mark, h.notM, h.lM, h.l.upd u (fun q hq => ?_), low_grown h.up g (fun q hq => (ownBlock_lt h.n hq).2), h.bb⟩
  · obtain ⟨a, ha⟩ := own_tyC h.s hq; exact hty ha (by decide)
  · obtain ⟨a, ha⟩ := (h.ent x hx).ty hq; exact hty ha (by decide)
  · obtain ⟨a, ha⟩ := own_tyC h.l hq; exact hty ha (by decide)
/-- The cell is written. -/
theorem BcAt.put {wc w : World} {b M o : Nat} {n z : Int} {cS cN vR vQ vS vN cS' cN' u0 : Value} {kS kN : Nat} {xs ys : List Value} {es : List (Value × Int)} {vl : Value} {ln : Nat} (h : BcAt wc w b M n z cS cN vR vQ vS vN kS kN xs ys es vl ln) (e : (#[.int .i64 n, cS, cN, vR, vQ] : Array Value).setIfInBounds o u0 = #[.int .i64 n, cS', cN', vR, vQ]) : BcAt wc (w.setCell ⟨b, o, none⟩ u0) b M n z cS' cN' vR vQ vS vN kS kN xs ys es vl ln := by
  have u : Upd [b] w (w.setCell ⟨b, o, none⟩ u0) := Upd.setCell (Upd.refl _ _) (by simp) _
  have hty : ∀ {q : Nat} {a : Array Value} {T : TypeId}, w.heap[q]? = some (.cells a T (0, 0)) → T ≠ 36 → q ∉ [b] := fun {q a T} hq hT hm => by
    have : q = b := by simpa using hm
    exact ty_neC hq h.cell hT this
  refine ⟨by rw [heap_set h.cell o u0, e], ownsRow_same h.s (fun q hq hlt => u.block q hlt ?_), ownsRow_same h.n (fun q hq hlt => u.block q hlt ?_), fun x hx => (h.ent x hx).upd u (fun q hq => ?_), h.far, (u.block M (lt_of_heap h.mark) (hty h.mark (by decide))).trans h.mark, h.notM, h.lM, h.l.upd u (fun q hq => ?_), low_upd h.up u (fun q hq => Nat.le_trans h.bb (Nat.le_of_eq (by simpa using hq : q = b).symm)), h.bb⟩
  · obtain ⟨a, ha⟩ := own_tyC h.s hq; exact hty ha (by decide)
  · obtain ⟨a, ha⟩ := own_tyC h.n hq; exact hty ha (by decide)
  · obtain ⟨a, ha⟩ := (h.ent x hx).ty hq; exact hty ha (by decide)
  · obtain ⟨a, ha⟩ := own_tyC h.l hq; exact hty ha (by decide)
/-- The list is an entry now. -/
theorem BcAt.entry {wc w : World} {b M : Nat} {n z : Int} {cS cN vR vQ vS vN : Value} {kS kN : Nat} {xs ys : List Value} {es : List (Value × Int)} {vl : Value} {ln : Nat} (h : BcAt wc w b M n z cS cN vR vQ vS vN kS kN xs ys es vl ln) (hl : vLen vl = ln) : BcAt wc w b M n z cS cN vR vQ vS vN kS kN xs ys (es ++ [(vl, z)]) vl ln := by
  have sp : ∀ x, x ∈ es ++ [(vl, z)] → x ∈ es ∨ x = (vl, z) := fun x hx => by simpa using hx
  refine ⟨h.cell, h.s, h.n, fun x hx => ?_, fun x hx g h1 h2 => ?_, h.mark, fun x hx => ?_, h.lM, h.l, h.up, h.bb⟩
  · rcases sp x hx with q | rfl
    · exact h.ent x q
    · exact h.l.l.ent
  · rcases sp x hx with q | rfl
    · exact h.far x q g h1 h2
    · exact Nat.le_of_eq hl
  · rcases sp x hx with q | rfl
    · exact h.notM x q
    · exact h.lM
theorem take_take {cur cur' : List Value} {a c : Nat} (hac : a ≤ c) (h : cur'.take c = cur.take c) : cur'.take a = cur.take a := by
  have e1 : (cur'.take c).take a = cur'.take a := by rw [List.take_take, Nat.min_eq_left hac]
  have e2 : (cur.take c).take a = cur.take a := by rw [List.take_take, Nat.min_eq_left hac]
  rw [← e1, ← e2, h]
/-- The list is longer by one mark. -/
theorem BcAt.moreL {wc w w' : World} {b M : Nat} {n z : Int} {cS cN vR vQ vS vN vl vl' : Value} {kS kN : Nat} {xs ys : List Value} {es : List (Value × Int)} {ln : Nat} (h : BcAt wc w b M n z cS cN vR vQ vS vN kS kN xs ys es vl ln) (g : w.grownBy w' vl.ownBlock) (hs : w'.ownsRow wc.heap.size 66 2 vl' (ln + 1) (flat ln (fun _ => (z, 0)) ++ [.int .i64 z, .int .i64 0])) (hloc : vl'.ownBlock = vl.ownBlock ∨ (vl'.ownBlock = some w.heap.size ∧ w.grownBy w' none)) : BcAt wc w' b M n z cS cN vR vQ vS vN kS kN xs ys es vl' (ln + 1) := by
  have u := Upd.of_grown g
  have hty : ∀ {q : Nat} {a : Array Value} {T : TypeId}, w.heap[q]? = some (.cells a T (0, 0)) → T ≠ 66 → q ∉ vl.ownBlock.toList := fun {q a T} hq hT hm => by
    obtain ⟨c, hc⟩ := own_tyC h.l (k := q) (by simpa using hm)
    exact ty_neC hq hc hT rfl
  have hL : SpO w' wc.heap.size vl' (ln + 1) (fun _ => (z, 0)) := by
    have e : flat ln (fun _ => (z, 0)) ++ [.int .i64 z, .int .i64 0] = flat (ln + 1) (fun _ => (z, (0 : Int))) := by
      rw [← flat_one, flat_append]; exact flat_congr (fun k hk => by split <;> rfl)
    rw [e] at hs; exact hs
  have hblk : ∀ q cur, w.heap[q]? = some (.cells cur 66 (0, 0)) → vl.ownBlock = some q → ∃ cur', w'.heap[q]? = some (.cells cur' 66 (0, 0)) ∧ cur'.toList.take (ln * 2) = cur.toList.take (ln * 2) := fun q cur hc hq => by
    rcases hloc with e | ⟨e, gn⟩
    · obtain ⟨h1, h2⟩ := hs
      rcases h2 with ⟨p, _⟩ | ⟨g', cap', cur', p, _, p3, _, _, _, p7⟩
      · rw [p] at e; rw [hq] at e; cases e
      · rw [p, hq] at e; simp [Value.ownBlock] at e; subst e
        refine ⟨cur', p3, ?_⟩
        obtain ⟨_, l2⟩ := h.l
        rcases l2 with ⟨l3, _⟩ | ⟨g2, cap2, cur2, l3, _, l5, _, _, _, l9⟩
        · rw [l3] at hq; cases hq
        · rw [l3] at hq; simp [Value.ownBlock] at hq; subst hq
          rw [hc] at l5
          injection l5 with l5
          injection l5 with l5 _ _
          subst l5
          rw [l9]
          have e1 : (cur'.toList.take ((ln + 1) * 2)).take (ln * 2) = cur'.toList.take (ln * 2) := by rw [List.take_take, Nat.min_eq_left (by omega)]
          rw [← e1, p7]
          have e2 : (flat ln (fun _ => (z, (0 : Int)))).length = ln * 2 := flat_length _ _
          rw [← e2]; exact List.take_left
    · exact ⟨cur, ((Upd.of_grown gn).block q (lt_of_heap hc) (by simp)).trans hc, rfl⟩
  refine ⟨(u.block b (lt_of_heap h.cell) (hty h.cell (by decide))).trans h.cell, ownsRow_same h.s (fun q hq hlt => u.block q hlt ?_), ownsRow_same h.n (fun q hq hlt => u.block q hlt ?_), fun x hx => (h.ent x hx).keep (fun q cur hq hc => ?_), fun x hx q h1 h2 => ?_, (u.block M (lt_of_heap h.mark) (fun hm => h.lM (by simpa using hm))).trans h.mark, h.notM, fun hm => ?_, hL, low_grown h.up g (fun q hq => (ownBlock_lt h.l hq).2), h.bb⟩
  · obtain ⟨a, ha⟩ := own_tyC h.s hq; exact hty ha (by decide)
  · obtain ⟨a, ha⟩ := own_tyC h.n hq; exact hty ha (by decide)
  · by_cases hv : vl.ownBlock = some q
    · obtain ⟨cur', e1, e2⟩ := hblk q cur hc hv
      have := h.far x hx q hq hv
      exact ⟨cur', e1, take_take (by omega) e2⟩
    · exact ⟨cur, (u.block q (lt_of_heap hc) (by simpa using hv)).trans hc, rfl⟩
  · rcases hloc with e | ⟨e, _⟩
    · have := h.far x hx q h1 (by rw [← e]; exact h2); omega
    · obtain ⟨a, ha⟩ := (h.ent x hx).ty h1
      rw [e] at h2
      have := lt_of_heap ha
      injection h2 with h2
      omega
  · rcases hloc with e | ⟨e, _⟩
    · exact h.lM (by rw [← e]; exact hm)
    · rw [e] at hm
      have := lt_of_heap h.mark
      injection hm with hm
      omega
end Go.Proofs.YtcpfpnjkfahjcaaGreat
