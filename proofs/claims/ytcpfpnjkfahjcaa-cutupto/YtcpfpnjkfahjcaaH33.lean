import Derived.Test.YtcpfpnjkfahjcaaH32
set_option linter.unusedSimpArgs false
set_option linter.unusedVariables false
namespace Go.Proofs.Ytcpfpnjkfahjcaa
open Go.RowKit

theorem extract_size (s : ByteArray) {a b : Nat} (hb : b ≤ s.size) : (s.extract a b).size = b - a := by rw [ByteArray.size_extract]; omega
theorem map_sh0 (l : List Sp.Gr) : l.map (Sp.sh 0) = l := by
  have : Sp.sh 0 = id := by funext x; rfl
  rw [this, List.map_id]
/-- What a pattern says of a beginning of a text. -/
theorem wholeS_pre (t : Tr) (s : ByteArray) (k : Nat) (hk : k ≤ s.size) : wholeS t (s.extract 0 k) = if (Sp.sem s t).m 0 k then some (Sp.spansOf ((Sp.sem s t).g 0 k) k) else none := by
  have hz := extract_size s (a := 0) hk
  have e1 := Sp.part_m hk (Nat.zero_le k) t
  have e2 := Sp.part_g hk (Nat.zero_le k) t
  rw [map_sh0] at e2
  unfold wholeS
  rw [hz]
  simp only [Nat.sub_zero] at *
  rw [e1, e2]
theorem wholeS_pre_no (t : Tr) (s : ByteArray) (k : Nat) (hk : k ≤ s.size) (h : (Sp.sem s t).m 0 k = false) : wholeS t (s.extract 0 k) = none := by
  rw [wholeS_pre t s k hk, h]; rfl
theorem wholeS_pre_yes (t : Tr) (s : ByteArray) (k : Nat) (hk : k ≤ s.size) (h : (Sp.sem s t).m 0 k = true) : wholeS t (s.extract 0 k) = some (Sp.spansOf ((Sp.sem s t).g 0 k) k) := by
  rw [wholeS_pre t s k hk, h]; rfl
/-- Each group is nowhere, or within the whole. -/
theorem spans_in (t : Tr) (s : ByteArray) (k c : Nat) (h : (Sp.sem s t).m 0 k = true) : Sp.spansOf ((Sp.sem s t).g 0 k) k c = (-1, -1) ∨ (0 ≤ (Sp.spansOf ((Sp.sem s t).g 0 k) k c).1 ∧ (Sp.spansOf ((Sp.sem s t).g 0 k) k c).1 ≤ (Sp.spansOf ((Sp.sem s t).g 0 k) k c).2 ∧ (Sp.spansOf ((Sp.sem s t).g 0 k) k c).2 ≤ k) := by
  unfold Sp.spansOf
  rcases Sp.puts_is c ((0, 0, k) :: (Sp.sem s t).g 0 k) with q | ⟨x, h1, h2, h3⟩
  · exact Or.inl q
  · right
    rw [h3]
    rcases List.mem_cons.mp h1 with q | q
    · subst q; simp
    · have := Sp.sem_in s t 0 k h x q
      simp; omega
theorem spans_zero {t : Tr} {n : Nat} (hc : Sp.Can [t]) (hn : Sp.NumIn 0 n [t]) (s : ByteArray) (k : Nat) : Sp.spansOf ((Sp.sem s t).g 0 k) k 0 = (0, (k : Int)) :=
  Sp.spansOf_zero _ _ (fun x hx => by have := Sp.sem_num s hn hc 0 k x hx; have := this.1; omega)
theorem PatAt.zero {w : World} {p : Nat} {t : Tr} {n : Nat} (h : PatAt w p t n) (s : ByteArray) (k : Nat) : Sp.spansOf ((Sp.sem s t).g 0 k) k 0 = (0, (k : Int)) := by
  obtain ⟨_, root, S, _, h2⟩ := h
  exact spans_zero h2.can h2.num s k

end Go.Proofs.Ytcpfpnjkfahjcaa

set_option linter.unusedSimpArgs false
set_option linter.unusedVariables false
namespace Go.Proofs.Ytcpfpnjkfahjcaa
open Go.RowKit

/-- A list of spans in a block of one's own, from a place on. -/
def SpO (w : World) (b : Nat) (v : Value) (n : Nat) (f : Nat → Int × Int) : Prop := w.ownsRow b 41 2 v n (flat n f)
theorem SpO.l {w : World} {b : Nat} {v : Value} {n : Nat} {f : Nat → Int × Int} (h : SpO w b v n f) : SpL w v n f :=
  ⟨h.1, h.2.imp id (fun ⟨g, cap, cur, h1, _, h3⟩ => ⟨g, cap, cur, h1, Nat.zero_le _, h3⟩)⟩
theorem SpO.nil (w : World) (b : Nat) (f : Nat → Int × Int) : SpO w b (.slice none 0 0) 0 f := ⟨flat_length 0 f, Or.inl ⟨rfl, rfl⟩⟩
theorem SpO.upd {w w' : World} {b : Nat} {v : Value} {n : Nat} {f : Nat → Int × Int} (h : SpO w b v n f) {l : List Nat} (u : Upd l w w') (hl : ∀ g, v.ownBlock = some g → g ∉ l) : SpO w' b v n f :=
  ownsRow_same h (fun g hg hlt => u.block g hlt (hl g hg))
theorem SpO.congr {w : World} {b : Nat} {v : Value} {n m : Nat} {f g : Nat → Int × Int} (h : SpO w b v n f) (hn : n = m) (k : ∀ c, c < m → f c = g c) : SpO w b v m g := by
  subst hn; unfold SpO at *; rw [← flat_congr k]; exact h
theorem SpO.mono {w : World} {b b' : Nat} {v : Value} {n : Nat} {f : Nat → Int × Int} (h : SpO w b v n f) (hb : b' ≤ b) : SpO w b' v n f :=
  ⟨h.1, h.2.imp id (fun ⟨g, cap, cur, h1, h2, h3⟩ => ⟨g, cap, cur, h1, by omega, h3⟩)⟩
theorem SpansAt.o {w : World} {g n : Nat} {f : Nat → Int × Int} (h : SpansAt w g n f) {b : Nat} (hb : b ≤ g) (hn : n ≤ 1000) : SpO w b (spansV g n) n f :=
  ⟨flat_length n f, Or.inr ⟨g, n, spArr n f, rfl, hb, h, Nat.le_refl _, by show n ≤ maxLen; unfold maxLen; omega, by rw [spArr_size]; omega, List.take_of_length_le (by rw [Array.length_toList, spArr_size]; omega)⟩⟩
/-- One more. -/
def snocF (n : Nat) (f : Nat → Int × Int) (x : Int × Int) : Nat → Int × Int := fun k => if k < n then f k else x
theorem flat_snoc (n : Nat) (f : Nat → Int × Int) (a b : Int) : flat n f ++ [.int .i64 a, .int .i64 b] = flat (n + 1) (snocF n f (a, b)) := by
  rw [← flat_one, flat_append]; rfl
theorem grown_upd {w wr w' : World} {v : Value} {n : Nat} {xs : List Value} (u : Upd [] w wr) (h : wr.ownsRow w.heap.size 41 2 v n xs) (g : wr.grownBy w' v.ownBlock) : Upd [] w w' := by
  have k := Upd.of_grown g
  exact ⟨k.os.trans u.os, k.tape.trans u.tape, k.output.trans u.output, Nat.le_trans u.size k.size, fun i hi _ => (k.block i (Nat.lt_of_lt_of_le hi u.size) (fun q => by
    have e : v.ownBlock = some i := by simpa using q
    have := (ownBlock_lt h e).2; omega)).trans (u.block i hi (by simp))⟩
theorem cells_two (w : World) (a b : Int) : ∀ (j : Nat) (u : Value), ([.int .i64 a, .int .i64 b] : List Value)[j]? = some u → (w.alloc (.cells #[.int .i64 a, .int .i64 b] 41)).cell? ((⟨w.heap.size, 0, none⟩ : Addr).add j) = some u := by
  intro j u h
  have hb : (w.alloc (.cells #[.int .i64 a, .int .i64 b] 41)).heap[w.heap.size]? = some (.cells #[.int .i64 a, .int .i64 b] 41 (0, 0)) := heap_new rfl
  match j with
  | 0 =>
    simp at h; subst h
    rw [show (⟨w.heap.size, 0, none⟩ : Addr).add 0 = ⟨w.heap.size, 0, none⟩ from rfl]
    simp only [World.cell?, hb]; rfl
  | 1 =>
    simp at h; subst h
    rw [show (⟨w.heap.size, 0, none⟩ : Addr).add 1 = ⟨w.heap.size, 1, none⟩ from rfl]
    simp only [World.cell?, hb]; rfl
  | j + 2 => simp at h
theorem two_one (a b : Int) : ∀ u ∈ ([.int .i64 a, .int .i64 b] : List Value), u.oneCell' = true := by
  intro u hu; simp at hu; rcases hu with rfl | rfl <;> rfl
theorem cells_two' {w : World} {B : Nat} (a b : Int) (hB : B = w.heap.size) : ∀ (j : Nat) (u : Value), ([.int .i64 a, .int .i64 b] : List Value)[j]? = some u → (w.alloc (.cells #[.int .i64 a, .int .i64 b] 41)).cell? ((⟨B, 0, none⟩ : Addr).add j) = some u := by
  subst hB; exact cells_two w a b
/-- Behind some rounds of nowhere. -/
structure NkInv (w : World) (n : Nat) (gn : Nat) (vo vi : Value) (wr : World) : Prop where
  st : ∃ c : Nat, vi = .int .i64 c ∧ c + gn = n ∧ SpO wr w.heap.size vo c Sp.nowh ∧ Upd [] w wr
set_option maxHeartbeats 1600000 in
theorem nowhere_any (n : Nat) (w : World) (hn : n ≤ 100) : Calls Try.prog 18 #[.int .i64 n] w fun e w' => ∃ v, e = .returned v ∧ SpO w' w.heap.size v n Sp.nowh ∧ Upd [] w w' := by
  obtain ⟨it, hi1, hi2, hi3, hi4⟩ := pInfoSpan
  have HI : Hid (Try.prog.info? 41 = some it ∧ it.zero = some (.agg #[.int .i64 0, .int .i64 0]) ∧ it.size = 2 ∧ it.bytes = 16) := ⟨hi1, hi2, hi3, hi4⟩
  clear hi1 hi2 hi3 hi4
  go_enter Try.func18, Try.ntmps18
  go_wp2_with fail
  go_loopg [3, 4] n (fun gn vo vi wr => NkInv w n gn vo vi wr)
  case atStart => exact ⟨0, rfl, by omega, SpO.nil _ _ _, Upd.refl _ _⟩
  case round =>
    obtain ⟨c, hci, hc, hs, hu⟩ := hrel.st
    subst hci
    have HS : Hid (SpO wr w.heap.size u3 c Sp.nowh) := hs
    have HU : Hid (Upd [] w wr) := hu
    clear hs hu
    by_cases hlt : c < n
    · have hlt' : (c : Int) < n := by omega
      obtain ⟨gm, hgm⟩ : ∃ k, gk = k + 1 := ⟨gk - 1, by omega⟩
      have HA : Hid (SpO (wr.alloc (.cells #[.int .i64 (-1), .int .i64 (-1)] 41)) w.heap.size u3 c Sp.nowh) := HS.out.upd (l := []) (by (repeat (first | exact Upd.refl _ _ | refine Upd.drewN ?_ | refine Upd.drew ?_ | refine Upd.setCell ?_ (by simp) _ | refine Upd.alloc ?_ _))) (by simp)
      have hsz := HU.out.size
      go_wp2_with (first | (at_builtin; refine wpList_append_own_at _ rfl _ _ 30 rfl w.heap.size 41 it (.agg #[.int .i64 0, .int .i64 0]) 2 16 Try.underlying30 HI.out.1 HI.out.2.1 HI.out.2.2.1 HI.out.2.2.2 rfl (by decide) _ _ _ rfl HA.out ⟨wr.heap.size, 0, none⟩ 1 1 [.int .i64 (-1), .int .i64 (-1)] rfl rfl ?c1 ?c2 ?c3 ?c4 ?c5 ?_) | fail)
      case c1 => exact cells_two _ _ _
      case c2 => intro u hu; simp at hu; subst hu; rfl
      case c3 => unfold maxLen; omega
      case c4 => omega
      case c5 => simp; omega
      intro v' w5 hown' hgrow hnil hloc
      have RL : Hid (NkInv w n gm v' (.int .i64 ((c + 1 : Nat) : Int)) w5) := by
        refine ⟨c + 1, rfl, by omega, ?_, grown_upd (HU.out.trans (by (repeat (first | exact Upd.refl _ _ | refine Upd.drewN ?_ | refine Upd.drew ?_ | refine Upd.setCell ?_ (by simp) _ | refine Upd.alloc ?_ _)))) HA.out hgrow⟩
        rw [flat_snoc] at hown'
        exact SpO.congr (f := snocF c Sp.nowh (-1, -1)) hown' rfl (fun k hk => by unfold snocF; split <;> rfl)
      clear hown' hgrow hnil hloc
      go_wp2_with fail
      go_roundg gm
      case measure => omega
      case rel => exact RL.out
    · have hlt' : ¬ (c : Int) < n := by omega
      have hcn : c = n := by omega
      subst hcn
      go_wp2_with fail
      go_ret
      exact ⟨u3, rfl, HS.out, HU.out⟩

/-- Behind some rounds of moved. -/
structure MvInv (w : World) (n : Nat) (f : Nat → Int × Int) (a : Nat) (gn : Nat) (vo vi : Value) (wr : World) : Prop where
  st : ∃ d : Nat, vi = .int .i64 d ∧ 1 ≤ d ∧ d + gn = n ∧ SpO wr w.heap.size vo (d - 1) (fun k => Sp.mv a (f (k + 1))) ∧ Upd [] w wr
set_option maxHeartbeats 1600000 in
theorem moved_some (g cap n a : Nat) (f : Nat → Int × Int) (w : World) (hg : g < w.heap.size) (h0 : ∀ k, k < n → w.cell? ⟨g, k * 2, none⟩ = some (.int .i64 (f k).1)) (h1 : ∀ k, k < n → w.cell? ⟨g, k * 2 + 1, none⟩ = some (.int .i64 (f k).2)) (hn : n ≤ 100) (hn1 : 1 ≤ n) (ha : a ≤ 3000000) (hf : ∀ k, k < n → -1 ≤ (f k).1 ∧ (f k).1 ≤ 1000 ∧ -1 ≤ (f k).2 ∧ (f k).2 ≤ 1000) :
    Calls Try.prog 17 #[.slice (some ⟨g, 0, none⟩) n cap, .int .i64 a] w fun e w' => ∃ v, e = .returned v ∧ SpO w' w.heap.size v (n - 1) (fun k => Sp.mv a (f (k + 1))) ∧ Upd [] w w' := by
  obtain ⟨it, hi1, hi2, hi3, hi4⟩ := pInfoSpan
  have HI : Hid (Try.prog.info? 41 = some it ∧ it.zero = some (.agg #[.int .i64 0, .int .i64 0]) ∧ it.size = 2 ∧ it.bytes = 16) := ⟨hi1, hi2, hi3, hi4⟩
  have H0 : Hid (∀ k, k < n → w.cell? ⟨g, k * 2, none⟩ = some (.int .i64 (f k).1)) := h0
  have H1 : Hid (∀ k, k < n → w.cell? ⟨g, k * 2 + 1, none⟩ = some (.int .i64 (f k).2)) := h1
  have HF : Hid (∀ k, k < n → -1 ≤ (f k).1 ∧ (f k).1 ≤ 1000 ∧ -1 ≤ (f k).2 ∧ (f k).2 ≤ 1000) := hf
  clear hi1 hi2 hi3 hi4 h0 h1 hf
  go_enter Try.func17, Try.ntmps17
  go_wp2_with fail
  go_loopg [5, 6] (n - 1) (fun gn vo vi wr => MvInv w n f a gn vo vi wr)
  case atStart => exact ⟨1, rfl, Nat.le_refl _, by omega, SpO.nil _ _ _, Upd.refl _ _⟩
  case round =>
    obtain ⟨d, hci, hd1, hc, hs, hu⟩ := hrel.st
    subst hci
    have HS : Hid (SpO wr w.heap.size u5 (d - 1) (fun k => Sp.mv a (f (k + 1)))) := hs
    have HU : Hid (Upd [] w wr) := hu
    clear hs hu
    by_cases hlt : d < n
    · have hlt' : (d : Int) < n := by omega
      obtain ⟨gm, hgm⟩ : ∃ k, gk = k + 1 := ⟨gk - 1, by omega⟩
      have hz := HU.out.size
      have hgr : g < wr.heap.size := by omega
      have k0 : wr.cell? ⟨g, d * 2, none⟩ = some (.int .i64 (f d).1) := by
        rw [← H0.out d hlt]; exact cell_eq (HU.out.block g hg (by simp)) _
      have k1 : wr.cell? ⟨g, d * 2 + 1, none⟩ = some (.int .i64 (f d).2) := by
        rw [← H1.out d hlt]; exact cell_eq (HU.out.block g hg (by simp)) _
      obtain ⟨b0, b1, b2, b3⟩ := HF.out d hlt
      have HV : Hid (Sp.mv a (f d) = if 0 ≤ (f d).1 then ((f d).1 + a, (f d).2 + a) else ((f d).1, (f d).2)) := rfl
      revert k0 k1 b0 b1 b2 b3 HV
      generalize (f d).1 = x
      generalize (f d).2 = y
      intro k0 k1 b0 b1 b2 b3 HV
      have ha' : (a : Int) ≤ 3000000 := by omega
      have ha0 : (0 : Int) ≤ a := by omega
      by_cases hx : 0 ≤ x
      · go_wp2_with (first | (at_builtin; refine wpList_append_own_at _ rfl _ _ 30 rfl w.heap.size 41 it (.agg #[.int .i64 0, .int .i64 0]) 2 16 Try.underlying30 HI.out.1 HI.out.2.1 HI.out.2.2.1 HI.out.2.2.2 rfl (by decide) _ _ _ rfl (SpO.upd (l := []) HS.out (by (repeat (first | exact Upd.refl _ _ | refine Upd.drewN ?_ | refine Upd.drew ?_ | refine Upd.setCell ?_ (by simp) _ | refine Upd.alloc ?_ _))) (by simp)) ⟨wr.heap.size + 1, 0, none⟩ 1 1 [.int .i64 (x + a), .int .i64 (y + a)] rfl rfl (cells_two' _ _ (by simp)) (two_one _ _) (by unfold maxLen; omega) (by omega) (by simp; omega) ?_) | fail)
        intro v' w5 hown' hgrow hnil hloc
        have RL : Hid (MvInv w n f a gm v' (.int .i64 ((d + 1 : Nat) : Int)) w5) := by
          refine ⟨d + 1, rfl, by omega, by omega, ?_, grown_upd (HU.out.trans (by (repeat (first | exact Upd.refl _ _ | refine Upd.drewN ?_ | refine Upd.drew ?_ | refine Upd.setCell ?_ (by simp) _ | refine Upd.alloc ?_ _)))) (SpO.upd (l := []) HS.out (by (repeat (first | exact Upd.refl _ _ | refine Upd.drewN ?_ | refine Upd.drew ?_ | refine Upd.setCell ?_ (by simp) _ | refine Upd.alloc ?_ _))) (by simp)) hgrow⟩
          rw [flat_snoc, show d - 1 + 1 = d by omega] at hown'
          refine SpO.congr (n := d) (f := snocF (d - 1) (fun k => Sp.mv a (f (k + 1))) (x + a, y + a)) hown' (by omega) (fun k hk => ?_)
          unfold snocF
          by_cases hkd : k < d - 1
          · rw [if_pos hkd]
          · rw [if_neg hkd, show k + 1 = d by omega, HV.out, if_pos hx]
        clear hown' hgrow hnil hloc
        go_wp2_with fail
        go_roundg gm
        case measure => omega
        case rel => exact RL.out
      · go_wp2_with (first | (at_builtin; refine wpList_append_own_at _ rfl _ _ 30 rfl w.heap.size 41 it (.agg #[.int .i64 0, .int .i64 0]) 2 16 Try.underlying30 HI.out.1 HI.out.2.1 HI.out.2.2.1 HI.out.2.2.2 rfl (by decide) _ _ _ rfl (SpO.upd (l := []) HS.out (by (repeat (first | exact Upd.refl _ _ | refine Upd.drewN ?_ | refine Upd.drew ?_ | refine Upd.setCell ?_ (by simp) _ | refine Upd.alloc ?_ _))) (by simp)) ⟨wr.heap.size + 1, 0, none⟩ 1 1 [.int .i64 (x), .int .i64 (y)] rfl rfl (cells_two' _ _ (by simp)) (two_one _ _) (by unfold maxLen; omega) (by omega) (by simp; omega) ?_) | fail)
        intro v' w5 hown' hgrow hnil hloc
        have RL : Hid (MvInv w n f a gm v' (.int .i64 ((d + 1 : Nat) : Int)) w5) := by
          refine ⟨d + 1, rfl, by omega, by omega, ?_, grown_upd (HU.out.trans (by (repeat (first | exact Upd.refl _ _ | refine Upd.drewN ?_ | refine Upd.drew ?_ | refine Upd.setCell ?_ (by simp) _ | refine Upd.alloc ?_ _)))) (SpO.upd (l := []) HS.out (by (repeat (first | exact Upd.refl _ _ | refine Upd.drewN ?_ | refine Upd.drew ?_ | refine Upd.setCell ?_ (by simp) _ | refine Upd.alloc ?_ _))) (by simp)) hgrow⟩
          rw [flat_snoc, show d - 1 + 1 = d by omega] at hown'
          refine SpO.congr (n := d) (f := snocF (d - 1) (fun k => Sp.mv a (f (k + 1))) (x, y)) hown' (by omega) (fun k hk => ?_)
          unfold snocF
          by_cases hkd : k < d - 1
          · rw [if_pos hkd]
          · rw [if_neg hkd, show k + 1 = d by omega, HV.out, if_neg (by omega)]
        clear hown' hgrow hnil hloc
        go_wp2_with fail
        go_roundg gm
        case measure => omega
        case rel => exact RL.out
    · have hlt' : ¬ (d : Int) < n := by omega
      have HN : Hid (n - 1 = d - 1) := by show _ = _; omega
      go_wp2_with fail
      go_ret
      exact ⟨u5, rfl, by rw [HN.out]; exact HS.out, HU.out⟩
end Go.Proofs.Ytcpfpnjkfahjcaa

set_option linter.unusedSimpArgs false
set_option linter.unusedVariables false
namespace Go.Proofs.Ytcpfpnjkfahjcaa
open Go.RowKit

theorem run_append_none {P : Program} (w : World) (t ty e : TypeId) (i : TypeInfo) (ht : P.underlying t = some (.slice e)) (hi : P.info? e = some i) (b : Option Addr) (n c : Nat) (hnc : n ≤ c) :
    (Builtin.append_ #[t, t] ty #[.slice b n c, .slice none 0 0]).run P w = .ok (.slice b n c) w := by
  cases b with
  | none => simp [Builtin.append_, run_underlying ht, sizeOf, typeInfo, hi, Builtin.lenOf, Builtin.firstCells, loadCells, loadCellsFrom, hnc]
  | some a => simp [Builtin.append_, run_underlying ht, sizeOf, typeInfo, hi, Builtin.lenOf, Builtin.firstCells, loadCells, loadCellsFrom, storeCells, hnc]
theorem wpList_append_none {P : Program} {w : World} {ops : Array Oper} {rest : List Oper} {o : Oper} {a : Act} {Q : Exit → Act → World → Prop} (hgd : o.guard = none) (s x : Operand) (t : TypeId)
    (ho : o.op = .call { callee := .builtin .append, args := #[s, x], argTypes := #[t, t] }) (e : TypeId) (i : TypeInfo) (ht : P.underlying t = some (.slice e)) (hi : P.info? e = some i)
    (b : Option Addr) (n c : Nat) (hnc : n ≤ c) (hs : a.eval s = .slice b n c) (hx : a.eval x = .slice none 0 0)
    (h : wpList P ops Q rest (a.put o.dst (.slice b n c)) w) : wpList P ops Q (o :: rest) a w := by
  refine wpList_plain hgd fun K hK => ?_
  have hr := run_append_none (P := P) w t o.type e i ht hi b n c hnc
  unfold Oper.wp execOp
  simp only [ho, resolve, invoke, builtin, Sem.run_bind, Sem.run_pure, Result.andThen_ok, List.map_toArray, List.map_cons, List.map_nil, hs, hx, hr]
  exact hK _ _ h
theorem SpO.slice {w : World} {b : Nat} {v : Value} {n : Nat} {f : Nat → Int × Int} (h : SpO w b v n f) : ∃ a c, v = .slice a n c ∧ n ≤ c := by
  rcases h.2 with ⟨q, q'⟩ | ⟨g, cap, cur, h1, _, _, h2, _⟩
  · exact ⟨none, 0, by rw [q, q'], by omega⟩
  · exact ⟨_, cap, h1, h2⟩
theorem SpL.cells {w : World} {g n cap : Nat} {f : Nat → Int × Int} (h : SpL w (.slice (some ⟨g, 0, none⟩) n cap) n f) : ∀ (j : Nat) (u : Value), (flat n f)[j]? = some u → w.cell? ((⟨g, 0, none⟩ : Addr).add j) = some u :=
  World.ownsRow.cells h rfl
theorem flat_one' (n : Nat) (f : Nat → Int × Int) : ∀ u ∈ flat n f, u.oneCell' = true := by
  intro u hu
  obtain ⟨i, hi, e⟩ := List.getElem_of_mem hu
  have := flat_get n f i
  rw [List.getElem?_eq_getElem hi, e] at this
  split at this
  · split at this <;> (cases this; rfl)
  · cases this

set_option maxHeartbeats 1600000 in
theorem moved_nil (a : Nat) (w : World) : Calls Try.prog 17 #[.slice none 0 0, .int .i64 a] w fun e w' => ∃ v, e = .returned v ∧ SpO w' w.heap.size v 0 Sp.nowh ∧ Upd [] w w' := by
  go_enter Try.func17, Try.ntmps17
  go_wp2_with fail
  refine wp_loop_rounds 1 ?_
  rw [rounds_succ]
  go_wp2_with fail
  go_ret
  exact ⟨_, rfl, SpO.nil _ _ _, Upd.refl _ _⟩
theorem moved_any (v : Value) (n a : Nat) (f : Nat → Int × Int) (w : World) (h : SpL w v n f) (hn : n ≤ 100) (ha : a ≤ 3000000) (hf : ∀ k, k < n → -1 ≤ (f k).1 ∧ (f k).1 ≤ 1000 ∧ -1 ≤ (f k).2 ∧ (f k).2 ≤ 1000) :
    Calls Try.prog 17 #[v, .int .i64 a] w fun e w' => ∃ v', e = .returned v' ∧ SpO w' w.heap.size v' (n - 1) (fun k => Sp.mv a (f (k + 1))) ∧ Upd [] w w' := by
  by_cases h0 : n = 0
  · subst h0
    rcases h.form with ⟨rfl, _⟩ | ⟨g, cap, rfl, hg, h1, h2⟩
    · refine (moved_nil a w).mono ?_
      rintro e w' ⟨v, h1, h2, h3⟩
      exact ⟨v, h1, SpO.congr h2 rfl (fun c hc => by omega), h3⟩
    · go_enter Try.func17, Try.ntmps17
      go_wp2_with fail
      refine wp_loop_rounds 1 ?_
      rw [rounds_succ]
      go_wp2_with fail
      go_ret
      exact ⟨_, rfl, SpO.nil _ _ _, Upd.refl _ _⟩
  · rcases h.form with ⟨_, q⟩ | ⟨g, cap, rfl, hg, h1, h2⟩
    · omega
    · exact moved_some g cap n a f w hg h1 h2 hn (by omega) ha hf

/-- The group 0 of a text, and others. -/
def wholeF (z na : Nat) (fa fb : Nat → Int × Int) : Nat → Int × Int := fun k => if k = 0 then (0, (z : Int)) else if k < 1 + na then fa (k - 1) else fb (k - 1 - na)
/-- One list behind another. -/
def catF (n : Nat) (f g : Nat → Int × Int) : Nat → Int × Int := fun k => if k < n then f k else g (k - n)
theorem SpO.cat0 {w : World} {b : Nat} {v : Value} {n : Nat} {f g : Nat → Int × Int} (h : SpO w b v n f) : SpO w b v (n + 0) (catF n f g) :=
  h.congr rfl (fun c hc => by unfold catF; rw [if_pos (show c < n from hc)])
/-- A list is appended, whatever it is. -/
theorem wpList_append_sp {w : World} {ops : Array Oper} {rest : List Oper} {o : Oper} {a : Act} {Q : Exit → Act → World → Prop} (hgd : o.guard = none) (s x : Operand)
    (ho : o.op = .call { callee := .builtin .append, args := #[s, x], argTypes := #[30, 30] }) (base : Nat) (v : Value) (n : Nat) (f : Nat → Int × Int) (hs : a.eval s = v) (hown : SpO w base v n f)
    (vx : Value) (m : Nat) (g : Nat → Int × Int) (hx : a.eval x = vx) (hxl : SpL w vx m g) (h63 : n + m ≤ 10000) (hbase : base ≤ w.heap.size)
    (h : ∀ v' w', SpO w' base v' (n + m) (catF n f g) → w.grownBy w' v.ownBlock → wpList Try.prog ops Q rest (a.put o.dst v') w') : wpList Try.prog ops Q (o :: rest) a w := by
  obtain ⟨it, hi1, hi2, hi3, hi4⟩ := pInfoSpan
  rcases hxl.form with ⟨rfl, rfl⟩ | ⟨gx, cap, rfl, _⟩
  · obtain ⟨b, c, rfl, hnc⟩ := hown.slice
    exact wpList_append_none hgd s x 30 ho 41 it Try.underlying30 hi1 b n c hnc hs hx (h _ _ hown.cat0 ⟨rfl, rfl, rfl, Nat.le_refl _, fun _ _ _ => rfl⟩)
  · refine wpList_append_own_at w hgd s x 30 ho base 41 it (.agg #[.int .i64 0, .int .i64 0]) 2 16 Try.underlying30 hi1 hi2 hi3 hi4 rfl (by decide) v n _ hs hown ⟨gx, 0, none⟩ m cap (flat m g) hx (flat_length m g) (SpL.cells hxl) (flat_one' m g) (by unfold maxLen; omega) (by omega) hbase ?_
    intro v' w' h1 h2 h3 h4
    rw [flat_append] at h1
    exact h v' w' h1 h2
theorem SpL.grown {w w' : World} {v : Value} {n : Nat} {f : Nat → Int × Int} (h : SpL w v n f) {row : Option Nat} (g : w.grownBy w' row) (hr : ∀ k, row = some k → v.ownBlock ≠ some k) : SpL w' v n f :=
  ownsRow_same h (fun k hk hlt => g.block k hlt (fun e => hr k e.symm hk))
theorem SpL.below {w : World} {v : Value} {n : Nat} {f : Nat → Int × Int} (h : SpL w v n f) {k : Nat} (hk : w.heap.size ≤ k) : v.ownBlock ≠ some k := fun e => by
  have := (ownBlock_lt h e).1; omega

set_option maxHeartbeats 1600000 in
theorem whole_any (S : ByteArray) (va vb : Value) (na nb : Nat) (fa fb : Nat → Int × Int) (w : World) (hS : S.size ≤ 1000) (ha : SpL w va na fa) (hb : SpL w vb nb fb) (hna : na ≤ 100) (hnb : nb ≤ 100) :
    Calls Try.prog 16 #[.string S, va, vb] w fun e w' => ∃ v, e = .returned v ∧ SpO w' w.heap.size v (1 + na + nb) (wholeF S.size na fa fb) ∧ Upd [] w w' := by
  have HA : Hid (SpL w va na fa) := ha
  have HB : Hid (SpL w vb nb fb) := hb
  have LT : Hid (SpL (w.alloc (.cells #[.int .i64 0, .int .i64 S.size] 41)) (.slice (some ⟨w.heap.size, 0, none⟩) 1 1) 1 (fun _ => (0, (S.size : Int)))) := by
    have e : SpansAt (w.alloc (.cells #[.int .i64 0, .int .i64 S.size] 41)) w.heap.size 1 (fun _ => (0, (S.size : Int))) := by
      have e := spArr_list [(0, (S.size : Int))]
      show _ = _
      have e0 : spArr 1 (fun _ => ((0 : Int), (S.size : Int))) = spArr 1 (fun k => [((0 : Int), (S.size : Int))].getD k (0, 0)) := spArr_congr (n := 1) (fun k hk => by
        have h0 : k = 0 := by omega
        subst h0; rfl)
      rw [e0, show spArr 1 (fun k => [((0 : Int), (S.size : Int))].getD k (0, 0)) = _ from e.symm]
      exact heap_new rfl
    exact e.own (by omega)
  clear ha hb
  go_enter Try.func16, Try.ntmps16
  go_wp2_with (first | (at_builtin; refine wpList_append_sp rfl _ _ rfl w.heap.size _ 0 (fun _ => (0, 0)) rfl (SpO.nil _ _ _) _ 1 (fun _ => (0, (S.size : Int))) rfl LT.out (by omega) (by simp) ?_) | fail)
  intro v1 w1 o1 g1
  have O1 : Hid (SpO w1 w.heap.size v1 1 (fun _ => (0, (S.size : Int)))) := SpO.congr o1 (by omega) (fun c hc => by unfold catF; rw [if_neg (Nat.not_lt_zero c)])
  have U1 : Hid (Upd [] w w1) := Upd.trans (by (repeat (first | exact Upd.refl _ _ | refine Upd.drewN ?_ | refine Upd.drew ?_ | refine Upd.setCell ?_ (by simp) _ | refine Upd.alloc ?_ _))) (Upd.of_grown g1)
  clear o1 g1
  go_wp2_with (first | (at_builtin; refine wpList_append_sp rfl _ _ rfl w.heap.size _ 1 (fun _ => (0, (S.size : Int))) rfl O1.out _ na fa rfl (HA.out.upd U1.out (by simp)) (by omega) U1.out.size ?_) | fail)
  intro v2 w2 o2 g2
  have O2 : Hid (SpO w2 w.heap.size v2 (1 + na) (catF 1 (fun _ => (0, (S.size : Int))) fa)) := o2
  have U2 : Hid (Upd [] w w2) := grown_upd U1.out O1.out g2
  clear o2 g2
  go_wp2_with (first | (at_builtin; refine wpList_append_sp rfl _ _ rfl w.heap.size _ (1 + na) (catF 1 (fun _ => (0, (S.size : Int))) fa) rfl O2.out _ nb fb rfl (HB.out.upd U2.out (by simp)) (by omega) U2.out.size ?_) | fail)
  intro v3 w3 o3 g3
  have O3 : Hid (SpO w3 w.heap.size v3 (1 + na + nb) (wholeF S.size na fa fb)) := SpO.congr o3 rfl (fun c hc => by
    unfold catF wholeF
    by_cases h1 : c = 0
    · subst h1; rw [if_pos (by omega), if_pos (by omega), if_pos rfl]
    · rw [if_neg h1]
      by_cases h2 : c < 1 + na
      · rw [if_pos h2, if_neg (by omega), if_pos h2]
      · rw [if_neg h2, if_neg h2, show c - (1 + na) = c - 1 - na by omega])
  have U3 : Hid (Upd [] w w3) := grown_upd U2.out O2.out g3
  clear o3 g3
  go_wp2_with fail
  go_ret
  exact ⟨v3, rfl, O3.out, U3.out⟩

/-- Is an error one of the limits'? -/
def isLimit (e : Int) : Bool := e == 2 || e == 5 || e == 6 || e == 7
set_option maxHeartbeats 800000 in
theorem made_yes (s : ByteArray) (t : Tr) (n : Int) (w : World) (hr : Sp.read s = .ok (t, n)) : Calls Try.prog 13 #[.string s] w fun e w' => ∃ p, e = .returned (.tuple #[.pointer (some ⟨p, 0, none⟩), .bool true]) ∧ PatAt w' p t n.toNat ∧ Upd [] w w' := by
  have HR : Hid (Sp.read s = .ok (t, n)) := hr
  clear hr
  go_enter Try.func13, Try.ntmps13
  go_wp2_with fail
  refine (comp_yes s t n _ HR.out).mono ?_
  rintro e w2 ⟨p, rfl, hp, h2, u2⟩
  have U2 : Hid (Upd [] w w2) := u2
  have P2 : Hid (PatAt w2 p t n.toNat) := h2
  clear u2 h2
  go_wp2_with fail
  go_ret2
  exact ⟨p, rfl, P2.out, U2.out⟩
set_option maxHeartbeats 800000 in
theorem made_no (s : ByteArray) (e1 a1 : Int) (w : World) (hr : Sp.read s = .error (e1, a1)) (h : e1 = 2 ∨ e1 = 5 ∨ e1 = 6 ∨ e1 = 7) : Calls Try.prog 13 #[.string s] w fun e w' => e = .returned (.tuple #[.pointer none, .bool true]) ∧ Upd [] w w' := by
  have HR : Hid (Sp.read s = .error (e1, a1)) := hr
  clear hr
  rcases h with rfl | rfl | rfl | rfl
  all_goals
    go_enter Try.func13, Try.ntmps13
    go_wp2_with fail
    refine (comp_no s _ a1 _ HR.out).mono ?_
    rintro e w2 ⟨rfl, u2⟩
    have U2 : Hid (Upd [] w w2) := u2
    clear u2
    go_wp2_with fail
    go_ret2
    exact ⟨rfl, U2.out⟩
end Go.Proofs.Ytcpfpnjkfahjcaa

set_option linter.unusedSimpArgs false
set_option linter.unusedVariables false
namespace Go.Proofs.Ytcpfpnjkfahjcaa
open Go.RowKit

/-- Kept from simp. -/
def catL (a b : List UInt8) : List UInt8 := a ++ b
theorem catL_len (a b : List UInt8) : (catL a b).length = a.length + b.length := by simp [catL]
theorem strL_append (a b : List UInt8) : str a ++ str b = str (a ++ b) := by
  apply ByteArray.ext; simp [str]
theorem addL (a b : List UInt8) (ha : a.length ≤ 8000000) (hb : b.length ≤ 8000000) (w : World) : (Op.stringOp .add (str a) (str b)).run Try.prog w = .ok (.string (str (catL a b))) w := by
  rw [run_string_add (P := Try.prog) (w := w) (str a) (str b) (by rw [Sp.str_size]; omega) (by rw [Sp.str_size]; omega), strL_append]; rfl

/-- A tree that was read: its groups. -/
structure ReadT (t : Tr) (n : Nat) : Prop where
  can : Sp.Can [t]
  num : Sp.NumIn 0 n [t]
theorem ReadT.of {s : ByteArray} {t : Tr} {n : Int} (h : Sp.read s = .ok (t, n)) : ReadT t n.toNat := by
  have hn := Sp.read_num h
  refine ⟨Sp.read_can h, ?_⟩
  have : ((n.toNat : Nat) : Int) = n := by omega
  rw [this]; exact hn.2
theorem ReadT.gr {t : Tr} {n : Nat} (h : ReadT t n) (s : ByteArray) (i j : Nat) : ∀ x ∈ (Sp.sem s t).g i j, 0 < x.1 ∧ x.1 ≤ n := fun x hx => by
  have := Sp.sem_num s h.num h.can i j x hx
  have h1 := this.1
  have h2 := this.2
  omega
theorem ReadT.zero {t : Tr} {n : Nat} (h : ReadT t n) (s : ByteArray) (k z : Nat) : Sp.spansOf ((Sp.sem s t).g 0 k) z 0 = (0, (z : Int)) :=
  Sp.spansOf_zero _ _ (fun x hx => by have := h.gr s 0 k x hx; omega)
theorem mv_zero (x : Int × Int) : Sp.mv ((0 : Nat) : Int) x = x := by
  unfold Sp.mv; split
  · simp
  · rfl
theorem wholeS_some {t : Tr} {s : ByteArray} {f : Nat → Int × Int} (h : wholeS t s = some f) : (Sp.sem s t).m 0 s.size = true ∧ f = Sp.spansOf ((Sp.sem s t).g 0 s.size) s.size := by
  unfold wholeS at h
  split at h
  · rename_i q; cases h; exact ⟨q, rfl⟩
  · cases h
theorem wholeS_none {t : Tr} {s : ByteArray} (h : wholeS t s = none) : (Sp.sem s t).m 0 s.size = false := by
  unfold wholeS at h
  split at h
  · cases h
  · rename_i q; simpa using q
theorem wholeS_is {t : Tr} {s : ByteArray} (h : (Sp.sem s t).m 0 s.size = true) : wholeS t s = some (Sp.spansOf ((Sp.sem s t).g 0 s.size) s.size) := by
  unfold wholeS; rw [if_pos h]
theorem wholeS_not {t : Tr} {s : ByteArray} (h : (Sp.sem s t).m 0 s.size = false) : wholeS t s = none := by
  unfold wholeS; rw [h]; rfl
/-- What was told is within bounds. -/
theorem wholeS_bd {t : Tr} {s : ByteArray} (hs : s.size ≤ 1000) {f : Nat → Int × Int} (h : wholeS t s = some f) : ∀ k, -1 ≤ (f k).1 ∧ (f k).1 ≤ 1000 ∧ -1 ≤ (f k).2 ∧ (f k).2 ≤ 1000 := by
  obtain ⟨hm, rfl⟩ := wholeS_some h
  intro k
  rcases spans_in t s s.size k hm with q | q
  · rw [q]; simp
  · omega

theorem chosen_0 {ta tb : Tr} {S : ByteArray} {n : Nat} (hb : ReadT tb n) (na : Nat) (h1 : wholeS ta S = none) (h2 : wholeS tb S = none) : wholeS (Sp.chosenT ta (Sp.renT na tb)) S = none := by
  refine wholeS_not ?_
  rw [Sp.chosen_m, (Sp.sem_r S hb.can).m, wholeS_none h1, wholeS_none h2]; rfl
theorem chosen_1 {ta tb : Tr} {S : ByteArray} {na nb : Nat} (ha : ReadT ta na) (hb : ReadT tb nb) {fa : Nat → Int × Int} (h1 : wholeS ta S = some fa) :
    ∃ f, wholeS (Sp.chosenT ta (Sp.renT na tb)) S = some f ∧ ∀ k, k < 1 + na + nb → f k = wholeF S.size na (fun k => Sp.mv ((0 : Nat) : Int) (fa (k + 1))) Sp.nowh k := by
  obtain ⟨hm, rfl⟩ := wholeS_some h1
  refine ⟨_, wholeS_is (by rw [Sp.chosen_m, hm]; rfl), fun k hk => ?_⟩
  rw [Sp.chosen_g1 _ _ _ _ _ hm]
  unfold wholeF
  by_cases h0 : k = 0
  · subst h0; rw [if_pos rfl, ha.zero]
  · rw [if_neg h0]
    by_cases h2 : k < 1 + na
    · rw [if_pos h2]
      simp only
      rw [mv_zero, show k - 1 + 1 = k by omega]
    · rw [if_neg h2, Sp.spansOf_pos _ _ _ h0]
      exact Sp.puts_none _ _ (fun x hx => by have := ha.gr S 0 S.size x hx; omega)
theorem chosen_2 {ta tb : Tr} {S : ByteArray} {na nb : Nat} (ha : ReadT ta na) (hb : ReadT tb nb) {fb : Nat → Int × Int} (h1 : wholeS ta S = none) (h2 : wholeS tb S = some fb) :
    ∃ f, wholeS (Sp.chosenT ta (Sp.renT na tb)) S = some f ∧ ∀ k, k < 1 + na + nb → f k = wholeF S.size na Sp.nowh (fun k => Sp.mv ((0 : Nat) : Int) (fb (k + 1))) k := by
  obtain ⟨hm, rfl⟩ := wholeS_some h2
  have hr := Sp.sem_r (n := na) S hb.can
  have hm' : (Sp.sem S (Sp.renT na tb)).m 0 S.size = true := by rw [hr.m]; exact hm
  refine ⟨_, wholeS_is (by rw [Sp.chosen_m, hm']; simp), fun k hk => ?_⟩
  rw [Sp.chosen_g2 _ _ _ _ _ (wholeS_none h1) hm', hr.g]
  unfold wholeF
  have hx : ∀ x ∈ ((Sp.sem S tb).g 0 S.size).map (Sp.rn na), na < x.1 := fun x hx => by
    obtain ⟨y, h3, rfl⟩ := List.mem_map.mp hx
    have := hb.gr S 0 S.size y h3
    show na < y.1 + na
    omega
  by_cases h0 : k = 0
  · subst h0; rw [if_pos rfl]
    exact Sp.spansOf_zero _ _ (fun x hx' => by have := hx x hx'; omega)
  · rw [if_neg h0, Sp.spansOf_pos _ _ _ h0]
    by_cases h2 : k < 1 + na
    · rw [if_pos h2]
      exact Sp.puts_none _ _ (fun x hx' => by have := hx x hx'; omega)
    · rw [if_neg h2]
      obtain ⟨j, rfl⟩ : ∃ j, k = j + na := ⟨k - na, by omega⟩
      simp only
      rw [Sp.puts_rn, mv_zero, show j + na - 1 - na + 1 = j by omega, Sp.spansOf_pos _ _ _ (by omega)]
end Go.Proofs.Ytcpfpnjkfahjcaa
