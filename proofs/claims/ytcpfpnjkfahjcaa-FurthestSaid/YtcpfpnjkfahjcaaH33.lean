import Derived.Test.YtcpfpnjkfahjcaaH32
set_option linter.unusedSimpArgs false
set_option linter.unusedVariables false
namespace Go.Proofs.Ytcpfpnjkfahjcaa
open Go.RowKit

theorem extract_size (s : ByteArray) {a b : Nat} (hb : b ≤ s.size) : (s.extract a b).size = b - a := by rw [ByteArray.size_extract]; omega
theorem map_sh0 (l : List Sp.Gr) : l.map (Sp.sh 0) = l := by
  have : Sp.sh 0 = id := by funext x; rfl
  rw [this, List.map_id]
/-- What a pattern says of a beginning of a text. -/
theorem wholeS_pre (t : Tr) (s : ByteArray) (k : Nat) (hk : k ≤ s.size) : wholeS t (s.extract 0 k) = if (Sp.sem s t).m 0 k then some (Sp.spansOf ((Sp.sem s t).g 0 k) k) else none := by
  have hz := extract_size s (a := 0) hk
  have e1 := Sp.part_m hk (Nat.zero_le k) t
  have e2 := Sp.part_g hk (Nat.zero_le k) t
  rw [map_sh0] at e2
  unfold wholeS
  rw [hz]
  simp only [Nat.sub_zero] at *
  rw [e1, e2]
theorem wholeS_pre_no (t : Tr) (s : ByteArray) (k : Nat) (hk : k ≤ s.size) (h : (Sp.sem s t).m 0 k = false) : wholeS t (s.extract 0 k) = none := by
  rw [wholeS_pre t s k hk, h]; rfl
theorem wholeS_pre_yes (t : Tr) (s : ByteArray) (k : Nat) (hk : k ≤ s.size) (h : (Sp.sem s t).m 0 k = true) : wholeS t (s.extract 0 k) = some (Sp.spansOf ((Sp.sem s t).g 0 k) k) := by
  rw [wholeS_pre t s k hk, h]; rfl
/-- Each group is nowhere, or within the whole. -/
theorem spans_in (t : Tr) (s : ByteArray) (k c : Nat) (h : (Sp.sem s t).m 0 k = true) : Sp.spansOf ((Sp.sem s t).g 0 k) k c = (-1, -1) ∨ (0 ≤ (Sp.spansOf ((Sp.sem s t).g 0 k) k c).1 ∧ (Sp.spansOf ((Sp.sem s t).g 0 k) k c).1 ≤ (Sp.spansOf ((Sp.sem s t).g 0 k) k c).2 ∧ (Sp.spansOf ((Sp.sem s t).g 0 k) k c).2 ≤ k) := by
  unfold Sp.spansOf
  rcases Sp.puts_is c ((0, 0, k) :: (Sp.sem s t).g 0 k) with q | ⟨x, h1, h2, h3⟩
  · exact Or.inl q
  · right
    rw [h3]
    rcases List.mem_cons.mp h1 with q | q
    · subst q; simp
    · have := Sp.sem_in s t 0 k h x q
      simp; omega
theorem spans_zero {t : Tr} {n : Nat} (hc : Sp.Can [t]) (hn : Sp.NumIn 0 n [t]) (s : ByteArray) (k : Nat) : Sp.spansOf ((Sp.sem s t).g 0 k) k 0 = (0, (k : Int)) :=
  Sp.spansOf_zero _ _ (fun x hx => by have := Sp.sem_num s hn hc 0 k x hx; have := this.1; omega)
theorem PatAt.zero {w : World} {p : Nat} {t : Tr} {n : Nat} (h : PatAt w p t n) (s : ByteArray) (k : Nat) : Sp.spansOf ((Sp.sem s t).g 0 k) k 0 = (0, (k : Int)) := by
  obtain ⟨_, root, S, _, h2⟩ := h
  exact spans_zero h2.can h2.num s k

/-- Behind some rounds of the first loop of Furthest. -/
structure FuInv (wb : World) (N lo : Nat) (gn : Nat) (v : Value) (wr : World) : Prop where
  st : ∃ c : Nat, v = .int .i64 c ∧ lo ≤ c ∧ c + gn = N + 1 ∧ Upd [] wb wr
set_option maxHeartbeats 1600000 in
theorem furthest_no (a s : ByteArray) (e1 a1 : Int) (w : World) (hr : Sp.read a = .error (e1, a1)) :
    Calls Try.prog 6 #[.string a, .string s] w fun e w' => e = .returned (.bool true) ∧ Upd [] w w' := by
  have he : e1 ≠ 0 := Sp.read_code hr
  have hb : (e1 != 0) = true := by simpa using he
  have HR : Hid (Sp.read a = .error (e1, a1)) := hr
  clear hr
  go_enter Try.func6, Try.ntmps6
  go_wp2_with fail
  refine (begun_any _).mono ?_
  rintro e w1 ⟨rfl, u1⟩
  have U1 : Hid (Upd [] w w1) := u1
  clear u1
  go_wp2_with fail
  refine (comp_no a e1 a1 _ HR.out).mono ?_
  rintro e w2 ⟨rfl, u2⟩
  have U2 : Hid (Upd [] w w2) := U1.out.trans u2
  clear u2
  go_wp2_with fail
  refine (short_any s 100 _ (by omega)).mono ?_
  rintro e w3 ⟨rfl, hw3⟩
  rw [hw3]
  clear hw3 w3
  go_wp2_with fail
  go_ret
  exact ⟨rfl, U2.out⟩

set_option maxRecDepth 8000 in
set_option maxHeartbeats 1600000 in
theorem furthest_none (a s : ByteArray) (t : Tr) (n : Int) (w : World) (hr : Sp.read a = .ok (t, n)) (hl : longS t (cutS s 100) = none) :
    Calls Try.prog 6 #[.string a, .string s] w fun e w' => e = .returned (.bool true) ∧ Upd [] w w' := by
  have HR : Hid (Sp.read a = .ok (t, n)) := hr
  have HL : Hid (longS t (cutS s 100) = none) := hl
  have hz : (cutS s 100).size ≤ 100 := by rw [cutS_size]; omega
  clear hr hl
  go_enter Try.func6, Try.ntmps6
  go_wp2_with fail
  refine (begun_any _).mono ?_
  rintro e w1 ⟨rfl, u1⟩
  have U1 : Hid (Upd [] w w1) := u1
  clear u1
  go_wp2_with fail
  refine (comp_yes a t n _ HR.out).mono ?_
  rintro e w2 ⟨p, rfl, hp, h2, u2⟩
  have U2 : Hid (Upd [] w w2) := U1.out.trans u2
  have P2 : Hid (PatAt w2 p t n.toNat) := h2
  clear u2 h2
  go_wp2_with fail
  refine (short_any s 100 _ (by omega)).mono ?_
  rintro e w3 ⟨rfl, hw3⟩
  rw [hw3]
  clear hw3 w3
  revert hz HL
  generalize cutS s 100 = S
  intro HL hz
  go_wp2_with fail
  refine (sLongest_no p t n.toNat S _ hz P2.out HL.out).mono ?_
  rintro e w3 ⟨rfl, u3⟩
  have U3 : Hid (Upd [] w w3) := U2.out.trans u3
  have P3 : Hid (PatAt w3 p t n.toNat) := P2.out.upd u3
  clear u3
  have hz' : (S.size : Int) ≤ 100 := by omega
  have hz2 : ¬ (S.size : Int) < -1 := by omega
  have hz3 : (-1 : Int) ≤ S.size := by omega
  go_wp2_with fail
  go_loopg [12] (S.size + 1) (fun gn v wr => FuInv w3 S.size 0 gn v wr)
  case atStart => exact ⟨0, rfl, by omega, by omega, Upd.refl _ _⟩
  case round =>
    obtain ⟨c, rfl, hc1, hc2, u⟩ := hrel.st
    have HU : Hid (Upd [] w3 wr) := u
    clear u
    by_cases hlt : c ≤ S.size
    · have hlt' : (c : Int) ≤ S.size := by omega
      obtain ⟨gm, hgm⟩ : ∃ k, gk = k + 1 := ⟨gk - 1, by omega⟩
      have HN : Hid (wholeS t (S.extract 0 c) = none) := wholeS_pre_no t S c hlt (Sp.greatest_none HL.out c (by omega) hlt)
      have hzc : (S.extract 0 c).size ≤ 100 := by rw [extract_size S hlt]; omega
      go_wp2_with fail
      refine (of_no p t n.toNat (S.extract 0 c) _ hzc (P3.out.upd HU.out) HN.out).mono ?_
      rintro e w4 ⟨rfl, u4⟩
      have U4 : Hid (Upd [] w3 w4) := HU.out.trans u4
      clear u4
      go_wp2_with fail
      go_roundg gm
      case measure => omega
      case rel => exact ⟨c + 1, rfl, by omega, by omega, U4.out⟩
    · have hlt' : ¬ (c : Int) ≤ S.size := by omega
      go_wp2_with fail
      go_ret
      exact ⟨rfl, U3.out.trans HU.out⟩

/-- Behind some rounds of the second loop of Furthest. -/
structure FvInv (wb : World) (n : Nat) (gn : Nat) (v : Value) (wr : World) : Prop where
  st : ∃ c : Nat, v = .int .i64 c ∧ c + gn = n ∧ ∃ q, wr = wb.drewN q
set_option maxRecDepth 8000 in
set_option maxHeartbeats 1600000 in
theorem furthest_some (a s : ByteArray) (t : Tr) (n : Int) (k : Nat) (w : World) (hr : Sp.read a = .ok (t, n)) (hl : longS t (cutS s 100) = some k) :
    Calls Try.prog 6 #[.string a, .string s] w fun e w' => e = .returned (.bool true) ∧ Upd [] w w' := by
  have HR : Hid (Sp.read a = .ok (t, n)) := hr
  have HL : Hid (longS t (cutS s 100) = some k) := hl
  have hz : (cutS s 100).size ≤ 100 := by rw [cutS_size]; omega
  clear hr hl
  go_enter Try.func6, Try.ntmps6
  go_wp2_with fail
  refine (begun_any _).mono ?_
  rintro e w1 ⟨rfl, u1⟩
  have U1 : Hid (Upd [] w w1) := u1
  clear u1
  go_wp2_with fail
  refine (comp_yes a t n _ HR.out).mono ?_
  rintro e w2 ⟨p, rfl, hp, h2, u2⟩
  have U2 : Hid (Upd [] w w2) := U1.out.trans u2
  have P2 : Hid (PatAt w2 p t n.toNat) := h2
  clear u2 h2
  go_wp2_with fail
  refine (short_any s 100 _ (by omega)).mono ?_
  rintro e w3 ⟨rfl, hw3⟩
  rw [hw3]
  clear hw3 w3
  revert hz HL
  generalize cutS s 100 = S
  intro HL hz
  have r := Sp.greatest_some HL.out
  have hk : k ≤ S.size := r.2.1
  have HK : Hid ((Sp.sem S t).m 0 k = true) := r.2.2.1
  have HKN : Hid (∀ m, k < m → m ≤ S.size → (Sp.sem S t).m 0 m = false) := r.2.2.2
  clear r
  go_wp2_with fail
  refine (sLongest_yes p t n.toNat S _ hz P2.out HL.out).mono ?_
  rintro e w3 ⟨g, hg, rfl, s3, u3⟩
  have U3 : Hid (Upd [] w w3) := U2.out.trans u3
  have P3 : Hid (PatAt w3 p t n.toNat) := P2.out.upd u3
  have hn9 : n.toNat ≤ 9 := P2.out.1
  generalize n.toNat = N at *
  have S3 : Hid (SpansAt w3 g (N + 1) (Sp.spansOf ((Sp.sem S t).g 0 k) k)) := s3
  clear u3 s3
  have hz' : (S.size : Int) ≤ 100 := by omega
  have hk' : (k : Int) ≤ S.size := by omega
  have q1 : ¬ (k : Int) < -1 := by omega
  have q2 : ¬ S.size < k := by omega
  have q3 : decide ((k : Int) < 0) = false := by simp
  have q4 : ((N : Int) + 1 == 0) = false := by rw [beq_eq_false_iff_ne]; omega
  have q5 : ¬ (k : Int) < 0 := by omega
  unfold spansV
  go_wp2_with fail
  go_loopg [12] (S.size - k) (fun gn v wr => FuInv w3 S.size (k + 1) gn v wr)
  case atStart => exact ⟨k + 1, rfl, by omega, by omega, Upd.refl _ _⟩
  case round =>
    obtain ⟨c, rfl, hc1, hc2, u⟩ := hrel.st
    have HU : Hid (Upd [] w3 wr) := u
    clear u
    by_cases hlt : c ≤ S.size
    · have hlt' : (c : Int) ≤ S.size := by omega
      obtain ⟨gm, hgm⟩ : ∃ k, gk = k + 1 := ⟨gk - 1, by omega⟩
      have HN : Hid (wholeS t (S.extract 0 c) = none) := wholeS_pre_no t S c hlt (HKN.out c (by omega) hlt)
      have hzc : (S.extract 0 c).size ≤ 100 := by rw [extract_size S hlt]; omega
      go_wp2_with fail
      refine (of_no p t N (S.extract 0 c) _ hzc (P3.out.upd HU.out) HN.out).mono ?_
      rintro e w4 ⟨rfl, u4⟩
      have U4 : Hid (Upd [] w3 w4) := HU.out.trans u4
      clear u4
      go_wp2_with fail
      go_roundg gm
      case measure => omega
      case rel => exact ⟨c + 1, rfl, by omega, by omega, U4.out⟩
    · have hlt' : ¬ (c : Int) ≤ S.size := by omega
      have HY : Hid (wholeS t (S.extract 0 k) = some (Sp.spansOf ((Sp.sem S t).g 0 k) k)) := wholeS_pre_yes t S k hk HK.out
      have hzk : (S.extract 0 k).size ≤ 100 := by rw [extract_size S hk]; omega
      go_wp2_with fail
      refine (of_yes p t N (S.extract 0 k) _ hzk (P3.out.upd HU.out) HY.out).mono ?_
      rintro e w4 ⟨g', hg', rfl, s4, u4⟩
      have U4 : Hid (Upd [] w3 w4) := HU.out.trans u4
      have S4 : Hid (SpansAt w4 g' (N + 1) (Sp.spansOf ((Sp.sem S t).g 0 k) k)) := s4
      have T4 : Hid (SpansAt w4 g (N + 1) (Sp.spansOf ((Sp.sem S t).g 0 k) k)) := (U4.out.block g (lt_of_heap S3.out) (by simp)).trans S3.out
      have HS : Hid (sameB (N + 1) (Sp.spansOf ((Sp.sem S t).g 0 k) k) (N + 1) (Sp.spansOf ((Sp.sem S t).g 0 k) k) = true) := (sameB_iff _ _ _ _).mpr ⟨rfl, fun _ _ => rfl⟩
      clear u4 s4
      unfold spansV
      go_wp2_with fail
      refine (same_any _ _ (N + 1) (N + 1) _ _ _ (T4.out.own (by omega)) (S4.out.own (by omega)) (by omega) (by omega)).mono ?_
      rw [HS.out]
      rintro e w5 ⟨rfl, q, rfl⟩
      have HZ := T4.out.facts
      have HZ0 : Hid (∀ c, c < N + 1 → w4.cell? ⟨g, c * 2, none⟩ = some (.int .i64 (Sp.spansOf ((Sp.sem S t).g 0 k) k c).1)) := HZ.c0
      have HZ1 : Hid (∀ c, c < N + 1 → w4.cell? ⟨g, c * 2 + 1, none⟩ = some (.int .i64 (Sp.spansOf ((Sp.sem S t).g 0 k) k c).2)) := HZ.c1
      clear HZ
      go_wp2_with fail
      go_loopg [18] (N + 1) (fun gn v wr => FvInv w4 (N + 1) gn v wr)
      case atStart => exact ⟨0, rfl, by omega, q, rfl⟩
      case round =>
        obtain ⟨c, rfl, hc, q', rfl⟩ := hrel.st
        by_cases hlt : c < N + 1
        · have hlt' : (c : Int) < (N : Int) + 1 := by omega
          obtain ⟨gm, hgm⟩ : ∃ k, gk = k + 1 := ⟨gk - 1, by omega⟩
          have r0 := HZ0.out c hlt
          have r1 := HZ1.out c hlt
          rcases spans_in t S k c HK.out with h | h
          · rw [h] at r0 r1
            have ne : ∀ w', (binOp .neq 41 (.agg #[.int .i64 (-1), .int .i64 (-1)]) (.agg #[.int .i64 (-1), .int .i64 (-1)])).run Try.prog w' = .ok (.bool false) w' := fun w' => neqSpan _ _ _ _ w'
            clear h
            go_wp2_with fail
            go_quiet (fail)
            go_wp2_with fail
            go_roundg gm
            case measure => omega
            case rel => exact ⟨c + 1, rfl, by omega, _, rfl⟩
          · revert h r0 r1
            generalize (Sp.spansOf ((Sp.sem S t).g 0 k) k c).1 = x
            generalize (Sp.spansOf ((Sp.sem S t).g 0 k) k c).2 = y
            rintro r0 r1 ⟨x0, x1, x2⟩
            go_wp2_with fail
            go_quiet (fail)
            go_wp2_with fail
            go_roundg gm
            case measure => omega
            case rel => exact ⟨c + 1, rfl, by omega, _, rfl⟩
        · have hlt' : ¬ (c : Int) < (N : Int) + 1 := by omega
          have z0 := HZ0.out 0 (by omega)
          have z1 := HZ1.out 0 (by omega)
          rw [P3.out.zero S k] at z0 z1
          have eq : ∀ w', (binOp .eql 41 (.agg #[.int .i64 0, .int .i64 k]) (.agg #[.int .i64 0, .int .i64 k])).run Try.prog w' = .ok (.bool true) w' := fun w' => by rw [eqlSpan]; simp
          go_wp2_with fail
          go_ret
          exact ⟨rfl, (U3.out.trans U4.out).trans (by (repeat (first | exact Upd.refl _ _ | refine Upd.drewN ?_ | refine Upd.drew ?_ | refine Upd.setCell ?_ (by simp) _ | refine Upd.alloc ?_ _)))⟩
theorem furthest_any (a s : ByteArray) (w : World) : Calls Try.prog 6 #[.string a, .string s] w fun e w' => e = .returned (.bool true) ∧ Upd [] w w' := by
  cases hr : Sp.read a with
  | error f => obtain ⟨e1, a1⟩ := f; exact furthest_no a s e1 a1 w hr
  | ok v =>
    obtain ⟨t, n⟩ := v
    cases hl : longS t (cutS s 100) with
    | none => exact furthest_none a s t n w hr hl
    | some k => exact furthest_some a s t n k w hr hl
end Go.Proofs.Ytcpfpnjkfahjcaa
