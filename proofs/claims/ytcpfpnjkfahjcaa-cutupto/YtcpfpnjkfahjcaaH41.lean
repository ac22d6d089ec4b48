import Derived.Test.YtcpfpnjkfahjcaaH39
set_option linter.unusedSimpArgs false
set_option linter.unusedVariables false
namespace Go.Proofs.Ytcpfpnjkfahjcaa
open Go.RowKit

def spLen (n : Nat) : Option (Nat → Int × Int) → Nat
  | none => 0
  | some _ => n
def spFun : Option (Nat → Int × Int) → Nat → Int × Int
  | none => Sp.nowh
  | some f => f
theorem RecSp.spl {w : World} {a : Option Addr} {m n : Nat} {r : Option (Nat → Int × Int)} (h : RecSp w a m n r) (hn : n ≤ 1000) : SpL w (.slice a m m) (spLen n r) (spFun r) := by
  cases r with
  | none => obtain ⟨rfl, rfl⟩ := h; exact SpL.nil _ _
  | some f => obtain ⟨q, rfl, rfl, e3⟩ := h; exact SpansAt.own e3 hn
theorem spLen_le {n : Nat} (r : Option (Nat → Int × Int)) : spLen n r ≤ n := by cases r <;> simp [spLen]
theorem RecsL.get {w : World} {n : Nat} : ∀ {rs : List Sp.Rec} {xs : List Value}, RecsL w n rs xs → ∀ (i : Nat) (r : Sp.Rec), rs[i]? = some r → ∃ a m, (∀ k, k < 5 → xs[i * 5 + k]? = (recV r a m)[k]?) ∧ RecSp w a m n r.sp
  | [], xs, h, i, r, hr => by simp at hr
  | r0 :: rs, xs, h, i, r, hr => by
    obtain ⟨a, m, ys, e, h1, h2⟩ := h
    cases i with
    | zero =>
      have : r0 = r := by simpa using hr
      subst this
      refine ⟨a, m, fun k hk => ?_, h1⟩
      rw [e, List.getElem?_append_left (by simp [recV]; omega)]
      simp
    | succ i =>
      obtain ⟨a', m', k1, k2⟩ := h2.get i r (by simpa using hr)
      refine ⟨a', m', fun k hk => ?_, k2⟩
      rw [e, List.getElem?_append_right (by simp [recV]; omega), ← k1 k hk]
      congr 1
      simp [recV]; omega
/-- The cells of one record of a list. -/
structure RecCell (w : World) (g i n : Nat) (r : Sp.Rec) (a : Option Addr) (m : Nat) : Prop where
  c0 : w.cell? ⟨g, i * 5, none⟩ = some (.int .i64 r.num)
  c1 : w.cell? ⟨g, i * 5 + 1, none⟩ = some (.int .i64 r.frm)
  c2 : w.cell? ⟨g, i * 5 + 2, none⟩ = some (.int .i64 r.len)
  c3 : w.cell? ⟨g, i * 5 + 3, none⟩ = some (.int .i64 r.code)
  c4 : w.cell? ⟨g, i * 5 + 4, none⟩ = some (.slice a m m)
  sp : RecSp w a m n r.sp
theorem RecsAt.get {w : World} {b n g cap i : Nat} {rs : List Sp.Rec} {r : Sp.Rec} (h : RecsAt w b (.slice (some ⟨g, 0, none⟩) rs.length cap) n rs) (hr : rs[i]? = some r) : ∃ a m, RecCell w g i n r a m := by
  obtain ⟨xs, h1, h2⟩ := h.ex
  obtain ⟨a, m, k1, k2⟩ := h2.get i r hr
  have hc := World.ownsRow.cells h1 rfl
  have hx : ∀ k v, k < 5 → (recV r a m)[k]? = some v → w.cell? ⟨g, i * 5 + k, none⟩ = some v := fun k v hk hv => by
    have := hc (i * 5 + k) v (by rw [k1 k hk]; exact hv)
    have e : (⟨g, 0, none⟩ : Addr).add (i * 5 + k) = ⟨g, i * 5 + k, none⟩ := by simp [Addr.add]; omega
    rw [e] at this; exact this
  exact ⟨a, m, hx 0 _ (by omega) rfl, hx 1 _ (by omega) rfl, hx 2 _ (by omega) rfl, hx 3 _ (by omega) rfl, hx 4 _ (by omega) rfl, k2⟩
theorem sameB_refl (n : Nat) (f : Nat → Int × Int) : sameB n f n f = true := (sameB_iff n f n f).mpr ⟨rfl, fun _ _ => rfl⟩
/-- Behind some rounds of records. -/
theorem same_rec {w : World} {a1 a2 : Option Addr} {m1 m2 n k : Nat} {r : Option (Nat → Int × Int)} (h1 : RecSp w a1 m1 n r) (h2 : RecSp w a2 m2 n r) (hn : n ≤ 1000) : Calls Try.prog 19 #[.slice a1 m1 m1, .slice a2 m2 m2] (w.drewN k) fun e w' => e = .returned (.bool true) ∧ ∃ q, w' = (w.drewN k).drewN q := by
  have u := drewN_upd [] w k
  refine (same_any _ _ _ _ _ _ _ ((h1.keep u (by simp)).spl hn) ((h2.keep u (by simp)).spl hn) (Nat.le_trans (spLen_le r) hn) (Nat.le_trans (spLen_le r) hn)).mono ?_
  rintro e w' ⟨rfl, q⟩
  rw [sameB_refl]
  exact ⟨rfl, q⟩
structure RsInv (w : World) (N gn : Nat) (vi : Value) (wr : World) : Prop where
  st : ∃ i : Nat, vi = .int .i64 i ∧ i + gn = N ∧ Upd [] w wr
set_option maxRecDepth 8000 in
set_option maxHeartbeats 1600000 in
theorem records_nil (va vb : Value) (w : World) (ba bb n : Nat) (ha : RecsAt w ba va n []) (hb : RecsAt w bb vb n []) : Calls Try.prog 28 #[va, vb] w fun e w' => e = .returned (.bool true) ∧ Upd [] w w' := by
  obtain ⟨aa, ca, rfl, _⟩ := ha.slice
  obtain ⟨ab, cb, rfl, _⟩ := hb.slice
  clear ha hb
  go_enter Try.func28, Try.ntmps28
  go_wp2_with fail
  refine wp_loop_rounds 1 ?_
  rw [rounds_succ]
  go_wp2_with fail
  go_ret
  exact ⟨rfl, by (repeat (first | exact Upd.refl _ _ | refine Upd.drewN ?_ | refine Upd.drew ?_ | refine Upd.setCell ?_ (by simp) _ | refine Upd.alloc ?_ _))⟩
set_option maxRecDepth 8000 in
set_option maxHeartbeats 1600000 in
theorem records_some (ga ca gb cb : Nat) (rs : List Sp.Rec) (w : World) (ba bb n : Nat) (hn : n ≤ 1000) (hN : rs.length ≤ 4000000) (ha : RecsAt w ba (.slice (some ⟨ga, 0, none⟩) rs.length ca) n rs) (hb : RecsAt w bb (.slice (some ⟨gb, 0, none⟩) rs.length cb) n rs) : Calls Try.prog 28 #[.slice (some ⟨ga, 0, none⟩) rs.length ca, .slice (some ⟨gb, 0, none⟩) rs.length cb] w fun e w' => e = .returned (.bool true) ∧ Upd [] w w' := by
  have HA : Hid (RecsAt w ba (.slice (some ⟨ga, 0, none⟩) rs.length ca) n rs) := ha
  have HB : Hid (RecsAt w bb (.slice (some ⟨gb, 0, none⟩) rs.length cb) n rs) := hb
  obtain ⟨N, hNl⟩ : ∃ N, rs.length = N := ⟨_, rfl⟩
  have HN : Hid (rs.length = N) := hNl
  rw [hNl] at hN ⊢
  clear ha hb hNl
  go_enter Try.func28, Try.ntmps28
  go_wp2_with fail
  go_loopg [5] N (fun gn vi wr => RsInv w N gn vi wr)
  case atStart => exact ⟨0, rfl, by omega, Upd.refl _ _⟩
  case round =>
    obtain ⟨i, hii, hi, hu⟩ := hrel.st
    subst hii
    have HU : Hid (Upd [] w wr) := hu
    clear hu
    by_cases hlt : i < N
    · have hlt' : (i : Int) < N := by omega
      obtain ⟨gm, hgm⟩ : ∃ k, gk = k + 1 := ⟨gk - 1, by omega⟩
      have hr : rs[i]? = some (rs[i]'(by rw [HN.out]; exact hlt)) := List.getElem?_eq_getElem _
      generalize rs[i]'(by rw [HN.out]; exact hlt) = r at hr
      obtain ⟨a1, m1, R1⟩ := (HA.out.upd HU.out).get hr
      obtain ⟨a2, m2, R2⟩ := (HB.out.upd HU.out).get hr
      clear hr
      obtain ⟨x0, x1, x2, x3, x4, x5⟩ := R1
      obtain ⟨y0, y1, y2, y3, y4, y5⟩ := R2
      have X5 : Hid (RecSp wr a1 m1 n r.sp ∧ n ≤ 1000) := ⟨x5, hn⟩
      have Y5 : Hid (RecSp wr a2 m2 n r.sp ∧ n ≤ 1000) := ⟨y5, hn⟩
      clear x5 y5
      have hl : spLen n r.sp ≤ 1000 := Nat.le_trans (spLen_le r.sp) hn
      go_wp2_with fail
      go_quiet (first | (go_at_call 19; exact Calls.quiet_of (same_rec X5.out.1 Y5.out.1 X5.out.2)))
      have HU2 : Hid (Upd [] w (wr.drewN nq)) := HU.out.trans (drewN_upd [] wr nq)
      have x0' : (wr.drewN nq).cell? ⟨ga, i * 5, none⟩ = some (.int .i64 r.num) := by rw [← x0]; simp
      have x1' : (wr.drewN nq).cell? ⟨ga, i * 5 + 1, none⟩ = some (.int .i64 r.frm) := by rw [← x1]; simp
      have x2' : (wr.drewN nq).cell? ⟨ga, i * 5 + 2, none⟩ = some (.int .i64 r.len) := by rw [← x2]; simp
      have x3' : (wr.drewN nq).cell? ⟨ga, i * 5 + 3, none⟩ = some (.int .i64 r.code) := by rw [← x3]; simp
      have y0' : (wr.drewN nq).cell? ⟨gb, i * 5, none⟩ = some (.int .i64 r.num) := by rw [← y0]; simp
      have y1' : (wr.drewN nq).cell? ⟨gb, i * 5 + 1, none⟩ = some (.int .i64 r.frm) := by rw [← y1]; simp
      have y2' : (wr.drewN nq).cell? ⟨gb, i * 5 + 2, none⟩ = some (.int .i64 r.len) := by rw [← y2]; simp
      have y3' : (wr.drewN nq).cell? ⟨gb, i * 5 + 3, none⟩ = some (.int .i64 r.code) := by rw [← y3]; simp
      clear x0 x1 x2 x3 x4 y0 y1 y2 y3 y4 X5 Y5
      generalize wr.drewN nq = w2 at *
      clear nq
      go_wp2_with fail
      go_quiet (fail)
      have HU3 : Hid (Upd [] w (w2.drewN nq)) := HU2.out.trans (drewN_upd [] w2 nq)
      clear x0' x1' x2' x3' y0' y1' y2' y3'
      generalize w2.drewN nq = w3 at *
      go_wp2_with fail
      go_roundg gm
      case measure => omega
      case rel => exact ⟨i + 1, rfl, by omega, HU3.out⟩
    · have hlt' : ¬ (i : Int) < N := by omega
      go_wp2_with fail
      go_ret
      exact ⟨rfl, HU.out⟩
theorem records_any (va vb : Value) (rs : List Sp.Rec) (w : World) (ba bb n : Nat) (hn : n ≤ 1000) (hN : rs.length ≤ 4000000) (ha : RecsAt w ba va n rs) (hb : RecsAt w bb vb n rs) : Calls Try.prog 28 #[va, vb] w fun e w' => e = .returned (.bool true) ∧ Upd [] w w' := by
  rcases ha.form with ⟨_, rfl⟩ | ⟨ga, ca, rfl, _, _, _⟩
  · exact records_nil va vb w ba bb n ha hb
  · rcases hb.form with ⟨_, rfl⟩ | ⟨gb, cb, rfl, _, _, _⟩
    · exact records_nil _ _ w ba bb n ha hb
    · exact records_some ga ca gb cb rs w ba bb n hn hN ha hb
end Go.Proofs.Ytcpfpnjkfahjcaa
