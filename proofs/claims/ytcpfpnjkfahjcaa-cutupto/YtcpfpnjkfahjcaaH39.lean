import Derived.Test.YtcpfpnjkfahjcaaH37
import Derived.Test.YtcpfpnjkfahjcaaH38
set_option linter.unusedSimpArgs false
set_option linter.unusedVariables false
namespace Go.Proofs.Ytcpfpnjkfahjcaa
open Go.RowKit

theorem recCells {w : World} {k : Nat} {T : TypeId} {x : Array Value} (h : w.heap[k]? = some (.cells x T)) : (∀ o, w.frozen? ⟨k, o, none⟩ = false) ∧ ∀ o, w.cell? ⟨k, o, none⟩ = x[o]? := by
  refine ⟨fun o => ?_, fun o => ?_⟩
  · rw [World.frozen?, h]; rfl
  · rw [World.cell?, h]; rfl
theorem over1 (w2 : World) (Z m : Nat) (K0 : Int) (a : Option Addr) : Upd [Z + 1] w2 ((w2.setCell ⟨Z + 1, 3, none⟩ (.int .i64 K0)).setCell ⟨Z + 1, 4, none⟩ (.slice a m m)) := by (repeat (first | exact Upd.refl _ _ | refine Upd.drewN ?_ | refine Upd.drew ?_ | refine Upd.setCell ?_ (by simp) _ | refine Upd.alloc ?_ _))
theorem over2 {w3 : World} {c p lim num from_ len g h cap : Nat} {L : List UInt8} (C : CuAt w3 c p lim num from_ len (.slice (some ⟨g, 0, none⟩) h cap) L) : CuAt ((((w3.setCell ⟨c, 2, none⟩ (.int .i64 ((num : Int) + 1))).setCell ⟨c, 3, none⟩ (.int .i64 ((from_ : Int) + ((len : Int) + 1)))).setCell ⟨c, 4, none⟩ (.int .i64 0)).setCell ⟨c, 5, none⟩ (.slice (some ⟨g, 0, none⟩) 0 cap)) c p lim (num + 1) (from_ + len + 1) 0 (.slice (some ⟨g, 0, none⟩) 0 cap) [] ∧ Upd [c] w3 ((((w3.setCell ⟨c, 2, none⟩ (.int .i64 ((num : Int) + 1))).setCell ⟨c, 3, none⟩ (.int .i64 ((from_ : Int) + ((len : Int) + 1)))).setCell ⟨c, 4, none⟩ (.int .i64 0)).setCell ⟨c, 5, none⟩ (.slice (some ⟨g, 0, none⟩) 0 cap)) := by
  have u : Upd [c] w3 ((((w3.setCell ⟨c, 2, none⟩ (.int .i64 ((num : Int) + 1))).setCell ⟨c, 3, none⟩ (.int .i64 ((from_ : Int) + ((len : Int) + 1)))).setCell ⟨c, 4, none⟩ (.int .i64 0)).setCell ⟨c, 5, none⟩ (.slice (some ⟨g, 0, none⟩) 0 cap)) := by (repeat (first | exact Upd.refl _ _ | refine Upd.drewN ?_ | refine Upd.drew ?_ | refine Upd.setCell ?_ (by simp) _ | refine Upd.alloc ?_ _))
  rcases C.held.2 with ⟨q, _⟩ | ⟨g', cap', cur, q, hb, hg, h1, h2, h3, h4⟩
  · cases q
  · injection q with q1 q2 q3
    injection q1 with q1
    injection q1 with q1 _ _
    subst q1 q3
    have hne := notU8 hg C.cell
    refine ⟨⟨?_, rfl, Or.inr ⟨g, cap, cur, rfl, hb, (u.block g (lt_of_heap hg) (by simpa using hne)).trans hg, Nat.zero_le _, h2, h3, by simp⟩⟩, u⟩
    rw [heap_set (heap_set (heap_set (heap_set C.cell _ _) _ _) _ _) _ _]
    have e1 : ((num + 1 : Nat) : Int) = (num : Int) + 1 := by omega
    have e2 : ((from_ + len + 1 : Nat) : Int) = (from_ : Int) + ((len : Int) + 1) := by omega
    rw [e1, e2]
    rfl
theorem over3 (w4 : World) (Z num from_ len m : Nat) (K0 : Int) (a : Option Addr) : Upd [Z] w4 (((((w4.setCell ⟨Z, 0, none⟩ (.int .i64 num)).setCell ⟨Z, 1, none⟩ (.int .i64 from_)).setCell ⟨Z, 2, none⟩ (.int .i64 len)).setCell ⟨Z, 3, none⟩ (.int .i64 K0)).setCell ⟨Z, 4, none⟩ (.slice a m m)).drew :=
  Upd.drew (Upd.setCell (Upd.setCell (Upd.setCell (Upd.setCell (Upd.setCell (Upd.refl _ _) (by simp) _) (by simp) _) (by simp) _) (by simp) _) (by simp) _)
theorem drew_heap {w : World} {k : Nat} {o : Obj} (h : w.heap[k]? = some o) : w.drew.heap[k]? = some o := h
theorem over4 {w4 : World} {Z num from_ len m : Nat} {K0 : Int} {a : Option Addr} (h : w4.heap[Z]? = some (.cells #[.int .i64 0, .int .i64 0, .int .i64 0, .int .i64 0, .slice none 0 0] 83)) : ((((((w4.setCell ⟨Z, 0, none⟩ (.int .i64 num)).setCell ⟨Z, 1, none⟩ (.int .i64 from_)).setCell ⟨Z, 2, none⟩ (.int .i64 len)).setCell ⟨Z, 3, none⟩ (.int .i64 K0)).setCell ⟨Z, 4, none⟩ (.slice a m m)).drew).heap[Z]? = some (.cells #[.int .i64 num, .int .i64 from_, .int .i64 len, .int .i64 K0, .slice a m m] 83) := by
  have e : (((((w4.setCell ⟨Z, 0, none⟩ (.int .i64 num)).setCell ⟨Z, 1, none⟩ (.int .i64 from_)).setCell ⟨Z, 2, none⟩ (.int .i64 len)).setCell ⟨Z, 3, none⟩ (.int .i64 K0)).setCell ⟨Z, 4, none⟩ (.slice a m m)).heap[Z]? = some (.cells #[.int .i64 num, .int .i64 from_, .int .i64 len, .int .i64 K0, .slice a m m] 83) := by
    rw [heap_set (heap_set (heap_set (heap_set (heap_set h _ _) _ _) _ _) _ _) _ _]
    rfl
  exact drew_heap e
theorem RecSp.upd {w w' : World} {a : Option Addr} {m n b : Nat} {r : Option (Nat → Int × Int)} {l : List Nat} (h : RecSp w a m n r) (u : Upd l w w') (hq : ∀ q o s, a = some ⟨q, o, s⟩ → b ≤ q) (hl : ∀ k, k ∈ l → k < b) : RecSp w' a m n r := by
  cases r with
  | none => exact h
  | some f =>
    obtain ⟨q, e1, e2, e3⟩ := h
    have := hq q 0 none e1
    exact ⟨q, e1, e2, (u.block q (lt_of_heap e3) (fun k => by have := hl q k; omega)).trans e3⟩
theorem overEnd {w w1 w2 : World} {c p lim num from_ len g h cap Z n m : Nat} {a : Option Addr} {L : List UInt8} {K0 : Int} {r : Option (Nat → Int × Int)} (hZ : w.heap.size = Z) (hc : c < Z) (U1 : Upd [] w w1) (h1 : Z + 1 < w1.heap.size) (U2 : Upd [] w1 w2) (C : CuAt w2 c p lim num from_ len (.slice (some ⟨g, 0, none⟩) h cap) L) (hg : g < Z) (hs : RecSp w2 a m n r) (hq : ∀ q o s, a = some ⟨q, o, s⟩ → w1.heap.size ≤ q) (r0 : w2.heap[Z]? = some (.cells #[.int .i64 0, .int .i64 0, .int .i64 0, .int .i64 0, .slice none 0 0] 83)) :
    RecSp ((((((((((((w2.setCell ⟨Z + 1, 3, none⟩ (.int .i64 K0)).setCell ⟨Z + 1, 4, none⟩ (.slice a m m)).setCell ⟨c, 2, none⟩ (.int .i64 ((num : Int) + 1))).setCell ⟨c, 3, none⟩ (.int .i64 ((from_ : Int) + ((len : Int) + 1)))).setCell ⟨c, 4, none⟩ (.int .i64 0)).setCell ⟨c, 5, none⟩ (.slice (some ⟨g, 0, none⟩) 0 cap)).setCell ⟨Z, 0, none⟩ (.int .i64 num)).setCell ⟨Z, 1, none⟩ (.int .i64 from_)).setCell ⟨Z, 2, none⟩ (.int .i64 len)).setCell ⟨Z, 3, none⟩ (.int .i64 K0)).setCell ⟨Z, 4, none⟩ (.slice a m m)).drew) a m n r ∧ (∀ q o s, a = some ⟨q, o, s⟩ → Z ≤ q) ∧ CuAt ((((((((((((w2.setCell ⟨Z + 1, 3, none⟩ (.int .i64 K0)).setCell ⟨Z + 1, 4, none⟩ (.slice a m m)).setCell ⟨c, 2, none⟩ (.int .i64 ((num : Int) + 1))).setCell ⟨c, 3, none⟩ (.int .i64 ((from_ : Int) + ((len : Int) + 1)))).setCell ⟨c, 4, none⟩ (.int .i64 0)).setCell ⟨c, 5, none⟩ (.slice (some ⟨g, 0, none⟩) 0 cap)).setCell ⟨Z, 0, none⟩ (.int .i64 num)).setCell ⟨Z, 1, none⟩ (.int .i64 from_)).setCell ⟨Z, 2, none⟩ (.int .i64 len)).setCell ⟨Z, 3, none⟩ (.int .i64 K0)).setCell ⟨Z, 4, none⟩ (.slice a m m)).drew) c p lim (num + 1) (from_ + len + 1) 0 (.slice (some ⟨g, 0, none⟩) 0 cap) [] ∧ Upd [c] w ((((((((((((w2.setCell ⟨Z + 1, 3, none⟩ (.int .i64 K0)).setCell ⟨Z + 1, 4, none⟩ (.slice a m m)).setCell ⟨c, 2, none⟩ (.int .i64 ((num : Int) + 1))).setCell ⟨c, 3, none⟩ (.int .i64 ((from_ : Int) + ((len : Int) + 1)))).setCell ⟨c, 4, none⟩ (.int .i64 0)).setCell ⟨c, 5, none⟩ (.slice (some ⟨g, 0, none⟩) 0 cap)).setCell ⟨Z, 0, none⟩ (.int .i64 num)).setCell ⟨Z, 1, none⟩ (.int .i64 from_)).setCell ⟨Z, 2, none⟩ (.int .i64 len)).setCell ⟨Z, 3, none⟩ (.int .i64 K0)).setCell ⟨Z, 4, none⟩ (.slice a m m)).drew) ∧ ((((((((((((w2.setCell ⟨Z + 1, 3, none⟩ (.int .i64 K0)).setCell ⟨Z + 1, 4, none⟩ (.slice a m m)).setCell ⟨c, 2, none⟩ (.int .i64 ((num : Int) + 1))).setCell ⟨c, 3, none⟩ (.int .i64 ((from_ : Int) + ((len : Int) + 1)))).setCell ⟨c, 4, none⟩ (.int .i64 0)).setCell ⟨c, 5, none⟩ (.slice (some ⟨g, 0, none⟩) 0 cap)).setCell ⟨Z, 0, none⟩ (.int .i64 num)).setCell ⟨Z, 1, none⟩ (.int .i64 from_)).setCell ⟨Z, 2, none⟩ (.int .i64 len)).setCell ⟨Z, 3, none⟩ (.int .i64 K0)).setCell ⟨Z, 4, none⟩ (.slice a m m)).drew).heap[Z]? = some (.cells #[.int .i64 num, .int .i64 from_, .int .i64 len, .int .i64 K0, .slice a m m] 83) := by
  have hsz := U1.size
  have hsz2 := U2.size
  have v1 := over1 w2 Z m K0 a
  revert v1
  generalize ((w2.setCell ⟨Z + 1, 3, none⟩ (.int .i64 K0)).setCell ⟨Z + 1, 4, none⟩ (.slice a m m)) = w3
  intro v1
  have C3 : CuAt w3 c p lim num from_ len (.slice (some ⟨g, 0, none⟩) h cap) L := C.blocks (v1.block c (lt_of_heap C.cell) (by simp; omega)) (fun k hk => v1.block k (ownBlock_lt C.held hk).1 (by simp [Value.ownBlock] at hk ⊢; omega))
  obtain ⟨C4, v2⟩ := over2 C3
  revert C4 v2
  generalize ((((w3.setCell ⟨c, 2, none⟩ (.int .i64 ((num : Int) + 1))).setCell ⟨c, 3, none⟩ (.int .i64 ((from_ : Int) + ((len : Int) + 1)))).setCell ⟨c, 4, none⟩ (.int .i64 0)).setCell ⟨c, 5, none⟩ (.slice (some ⟨g, 0, none⟩) 0 cap)) = w4
  intro C4 v2
  have v3 := over3 w4 Z num from_ len m K0 a
  have r4 := over4 (num := num) (from_ := from_) (len := len) (m := m) (K0 := K0) (a := a) ((v2.block Z (Nat.lt_of_lt_of_le (by omega) v1.size) (by simp; omega)).trans ((v1.block Z (by omega) (by simp)).trans r0))
  revert v3 r4
  generalize (((((w4.setCell ⟨Z, 0, none⟩ (.int .i64 num)).setCell ⟨Z, 1, none⟩ (.int .i64 from_)).setCell ⟨Z, 2, none⟩ (.int .i64 len)).setCell ⟨Z, 3, none⟩ (.int .i64 K0)).setCell ⟨Z, 4, none⟩ (.slice a m m)).drew = w5
  intro v3 r4
  have v : Upd [c, Z, Z + 1] w2 w5 := ((v1.mono (by simp)).trans (v2.mono (by simp))).trans (v3.mono (by simp))
  refine ⟨hs.upd v hq (by simp; omega), fun q o s e => by have := hq q o s e; omega, C4.blocks (v3.block c (lt_of_heap C4.cell) (by simp; omega)) (fun k hk => v3.block k (ownBlock_lt C4.held hk).1 (by simp [Value.ownBlock] at hk ⊢; omega)), ?_⟩
  have uu : Upd [c, Z, Z + 1] w w5 := ((U1.trans U2).mono (by simp) : Upd [c, Z, Z + 1] w w2).trans v
  exact ⟨⟨uu.os, uu.tape, uu.output, uu.size, fun k hk hn => uu.block k hk (by simp at hn ⊢; omega)⟩, r4⟩
set_option maxRecDepth 8000 in
set_option maxHeartbeats 1600000 in
theorem cuOver_any (c p lim num from_ len g h cap : Nat) (L : List UInt8) (t : Tr) (n : Nat) (w : World) (hl : lim ≤ 100) (hL : L.length ≤ lim) (hnum : num ≤ 3000000) (hfr : from_ ≤ 3000000) (hlen : len ≤ 3000000) (C : CuAt w c p lim num from_ len (.slice (some ⟨g, 0, none⟩) h cap) L) (P : PatAt w p t n) : Calls Try.prog 48 #[.pointer (some ⟨c, 0, none⟩)] w fun e w' => ∃ a m, e = .returned (.agg #[.int .i64 num, .int .i64 from_, .int .i64 len, .int .i64 (apartS t lim from_ len L).1, .slice a m m]) ∧ RecSp w' a m (n + 1) (apartS t lim from_ len L).2 ∧ (∀ q o s, a = some ⟨q, o, s⟩ → w.heap.size ≤ q) ∧ CuAt w' c p lim (num + 1) (from_ + len + 1) 0 (.slice (some ⟨g, 0, none⟩) 0 cap) [] ∧ Upd [c] w w' := by
  have HC : Hid (CuAt w c p lim num from_ len (.slice (some ⟨g, 0, none⟩) h cap) L) := C
  have HP : Hid (PatAt w p t n) := P
  have hc : c < w.heap.size := lt_of_heap C.cell
  have c2 : w.cell? ⟨c, 2, none⟩ = some (.int .i64 num) := by rw [World.cell?, C.cell]; rfl
  have c3 : w.cell? ⟨c, 3, none⟩ = some (.int .i64 from_) := by rw [World.cell?, C.cell]; rfl
  have c4 : w.cell? ⟨c, 4, none⟩ = some (.int .i64 len) := by rw [World.cell?, C.cell]; rfl
  clear C P
  go_enter Try.func48, Try.ntmps48
  go_wp2_with fail
  go_region
  go_wp2_with fail
  have U1 : Hid (Upd [] w ((w.alloc (.cells #[.int .i64 0, .int .i64 0, .int .i64 0, .int .i64 0, .slice none 0 0] 83)).alloc (.cells #[.int .i64 num, .int .i64 from_, .int .i64 len, .int .i64 0, .slice none 0 0] 83)).drew) := by (repeat (first | exact Upd.refl _ _ | refine Upd.drewN ?_ | refine Upd.drew ?_ | refine Upd.setCell ?_ (by simp) _ | refine Upd.alloc ?_ _))
  have R1 : Hid (((w.alloc (.cells #[.int .i64 0, .int .i64 0, .int .i64 0, .int .i64 0, .slice none 0 0] 83)).alloc (.cells #[.int .i64 num, .int .i64 from_, .int .i64 len, .int .i64 0, .slice none 0 0] 83)).drew.heap[w.heap.size + 1]? = some (.cells #[.int .i64 num, .int .i64 from_, .int .i64 len, .int .i64 0, .slice none 0 0] 83)) := heap_new (w := w.alloc (.cells #[.int .i64 0, .int .i64 0, .int .i64 0, .int .i64 0, .slice none 0 0] 83)) (by show w.heap.size + 1 = (w.heap.push _).size; simp)
  have R0 : Hid (((w.alloc (.cells #[.int .i64 0, .int .i64 0, .int .i64 0, .int .i64 0, .slice none 0 0] 83)).alloc (.cells #[.int .i64 num, .int .i64 from_, .int .i64 len, .int .i64 0, .slice none 0 0] 83)).drew.heap[w.heap.size]? = some (.cells #[.int .i64 0, .int .i64 0, .int .i64 0, .int .i64 0, .slice none 0 0] 83)) := (Below.heap_alloc (w.alloc (.cells #[.int .i64 0, .int .i64 0, .int .i64 0, .int .i64 0, .slice none 0 0] 83)) _ _ (by show w.heap.size < (w.heap.push _).size; simp)).trans (heap_new rfl)
  have C1 : Hid (CuAt ((w.alloc (.cells #[.int .i64 0, .int .i64 0, .int .i64 0, .int .i64 0, .slice none 0 0] 83)).alloc (.cells #[.int .i64 num, .int .i64 from_, .int .i64 len, .int .i64 0, .slice none 0 0] 83)).drew c p lim num from_ len (.slice (some ⟨g, 0, none⟩) h cap) L) := HC.out.blocks (U1.out.block c hc (by simp)) (fun k hk => U1.out.block k (ownBlock_lt HC.out.held hk).1 (by simp))
  refine (cuApart_any c p lim num from_ len g h cap L t n _ hl hL hlen hfr C1.out (HP.out.upd U1.out)).mono ?_
  revert U1 R1 R0 C1
  generalize ((w.alloc (.cells #[.int .i64 0, .int .i64 0, .int .i64 0, .int .i64 0, .slice none 0 0] 83)).alloc (.cells #[.int .i64 num, .int .i64 from_, .int .i64 len, .int .i64 0, .slice none 0 0] 83)).drew = w1
  intro U1 R1 R0 C1
  rintro e w2 ⟨a, m, rfl, hs, hq, u2⟩
  have HS : Hid (RecSp w2 a m (n + 1) (apartS t lim from_ len L).2) := hs
  have HQ : Hid (∀ q o s, a = some ⟨q, o, s⟩ → w1.heap.size ≤ q) := hq
  have U2 : Hid (Upd [] w1 w2) := u2
  have C2 : Hid (CuAt w2 c p lim num from_ len (.slice (some ⟨g, 0, none⟩) h cap) L) := C1.out.blocks (u2.block c (lt_of_heap C1.out.cell) (by simp)) (fun k hk => u2.block k (ownBlock_lt C1.out.held hk).1 (by simp))
  have r0 := (u2.block _ (lt_of_heap R0.out) (by simp)).trans R0.out
  have r1 := (u2.block _ (lt_of_heap R1.out) (by simp)).trans R1.out
  obtain ⟨fr0, x0⟩ := recCells r0
  obtain ⟨fr1, x1⟩ := recCells r1
  obtain ⟨frc, xc⟩ := recCells C2.out.cell
  have y10 : w2.cell? ⟨w.heap.size + 1, 0, none⟩ = some (.int .i64 num) := x1 0
  have y11 : w2.cell? ⟨w.heap.size + 1, 1, none⟩ = some (.int .i64 from_) := x1 1
  have y12 : w2.cell? ⟨w.heap.size + 1, 2, none⟩ = some (.int .i64 len) := x1 2
  have y13 : w2.cell? ⟨w.heap.size + 1, 3, none⟩ = some (.int .i64 0) := x1 3
  have y14 : w2.cell? ⟨w.heap.size + 1, 4, none⟩ = some (.slice none 0 0) := x1 4
  have y00 : w2.cell? ⟨w.heap.size, 0, none⟩ = some (.int .i64 0) := x0 0
  have y01 : w2.cell? ⟨w.heap.size, 1, none⟩ = some (.int .i64 0) := x0 1
  have y02 : w2.cell? ⟨w.heap.size, 2, none⟩ = some (.int .i64 0) := x0 2
  have y03 : w2.cell? ⟨w.heap.size, 3, none⟩ = some (.int .i64 0) := x0 3
  have y04 : w2.cell? ⟨w.heap.size, 4, none⟩ = some (.slice none 0 0) := x0 4
  have z2 : w2.cell? ⟨c, 2, none⟩ = some (.int .i64 num) := xc 2
  have z3 : w2.cell? ⟨c, 3, none⟩ = some (.int .i64 from_) := xc 3
  have z4 : w2.cell? ⟨c, 4, none⟩ = some (.int .i64 len) := xc 4
  have z5 : w2.cell? ⟨c, 5, none⟩ = some (.slice (some ⟨g, 0, none⟩) h cap) := xc 5
  have n0 : c ≠ w.heap.size := by omega
  have n1 : c ≠ w.heap.size + 1 := by omega
  generalize hZ : w.heap.size = Z at *
  generalize hK0 : (apartS t lim from_ len L).1 = K0 at *
  have HK0 : Hid ((apartS t lim from_ len L).1 = K0) := hK0
  clear hK0
  clear hs hq u2 r0 r1 x0 x1 xc
  go_wp2_with fail
  go_region
  all_goals go_wp2_with fail
  have E := overEnd (num := num) (from_ := from_) (len := len) (K0 := K0) hZ (by omega) U1.out (lt_of_heap R1.out) U2.out C2.out (by have := (ownBlock_lt HC.out.held (g := g) rfl).1; omega) HS.out HQ.out ((U2.out.block Z (by have := lt_of_heap R1.out; omega) (by simp)).trans R0.out)
  revert E
  generalize (((((((((((w2.setCell ⟨Z + 1, 3, none⟩ (.int .i64 K0)).setCell ⟨Z + 1, 4, none⟩ (.slice a m m)).setCell ⟨c, 2, none⟩ (.int .i64 ((num : Int) + 1))).setCell ⟨c, 3, none⟩ (.int .i64 ((from_ : Int) + ((len : Int) + 1)))).setCell ⟨c, 4, none⟩ (.int .i64 0)).setCell ⟨c, 5, none⟩ (.slice (some ⟨g, 0, none⟩) 0 cap)).setCell ⟨Z, 0, none⟩ (.int .i64 num)).setCell ⟨Z, 1, none⟩ (.int .i64 from_)).setCell ⟨Z, 2, none⟩ (.int .i64 len)).setCell ⟨Z, 3, none⟩ (.int .i64 K0)).setCell ⟨Z, 4, none⟩ (.slice a m m)).drew = w5
  rintro ⟨E1, E2, E3, E4, E5⟩
  have q0 : w5.cell? ⟨Z, 0, none⟩ = some (.int .i64 num) := by rw [World.cell?, E5]; rfl
  have q1 : w5.cell? ⟨Z, 1, none⟩ = some (.int .i64 from_) := by rw [World.cell?, E5]; rfl
  have q2 : w5.cell? ⟨Z, 2, none⟩ = some (.int .i64 len) := by rw [World.cell?, E5]; rfl
  have q3 : w5.cell? ⟨Z, 3, none⟩ = some (.int .i64 K0) := by rw [World.cell?, E5]; rfl
  have q4 : w5.cell? ⟨Z, 4, none⟩ = some (.slice a m m) := by rw [World.cell?, E5]; rfl
  refine bodyPost_ret (v := .agg #[.int .i64 num, .int .i64 from_, .int .i64 len, .int .i64 K0, .slice a m m]) (by simp [results, Try.results48, go_sem, q0, q1, q2, q3, q4]) rfl ?_
  exact ⟨a, m, by rw [HK0.out], E1, by rw [hZ]; exact E2, E3, E4⟩
end Go.Proofs.Ytcpfpnjkfahjcaa

set_option linter.unusedSimpArgs false
set_option linter.unusedVariables false
namespace Go.Proofs.Ytcpfpnjkfahjcaa
open Go.RowKit

/-- The five cells of a record. -/
def recV (r : Sp.Rec) (a : Option Addr) (m : Nat) : List Value := [.int .i64 r.num, .int .i64 r.frm, .int .i64 r.len, .int .i64 r.code, .slice a m m]
/-- Records, as they lie in a row. -/
def RecsL (w : World) (n : Nat) : List Sp.Rec → List Value → Prop
  | [], xs => xs = []
  | r :: rs, xs => ∃ a m ys, xs = recV r a m ++ ys ∧ RecSp w a m n r.sp ∧ RecsL w n rs ys
theorem RecsL.append {w : World} {n : Nat} : ∀ {rs rs' : List Sp.Rec} {xs ys : List Value}, RecsL w n rs xs → RecsL w n rs' ys → RecsL w n (rs ++ rs') (xs ++ ys)
  | [], rs', xs, ys, h, k => by rw [show xs = [] from h]; exact k
  | r :: rs, rs', xs, ys, h, k => by
    obtain ⟨a, m, zs, e, h1, h2⟩ := h
    exact ⟨a, m, zs ++ ys, by rw [e, List.append_assoc], h1, h2.append k⟩
theorem RecsL.one {w : World} {n m : Nat} {r : Sp.Rec} {a : Option Addr} (h : RecSp w a m n r.sp) : RecsL w n [r] (recV r a m) := ⟨a, m, [], by simp, h, rfl⟩
theorem RecsL.length {w : World} {n : Nat} : ∀ {rs : List Sp.Rec} {xs : List Value}, RecsL w n rs xs → xs.length = rs.length * 5
  | [], xs, h => by rw [show xs = [] from h]; rfl
  | r :: rs, xs, h => by
    obtain ⟨a, m, ys, e, _, h2⟩ := h
    rw [e, List.length_append, h2.length]
    simp [recV]; omega
/-- Not a block of spans. -/
def NotSp (w : World) (k : Nat) : Prop := ∀ a, w.heap[k]? ≠ some (.cells a 41 (0, 0))
theorem RecSp.keep {w w' : World} {a : Option Addr} {m n : Nat} {r : Option (Nat → Int × Int)} {l : List Nat} (h : RecSp w a m n r) (u : Upd l w w') (hl : ∀ k, k ∈ l → NotSp w k) : RecSp w' a m n r := by
  cases r with
  | none => exact h
  | some f =>
    obtain ⟨q, e1, e2, e3⟩ := h
    exact ⟨q, e1, e2, (u.block q (lt_of_heap e3) (fun k => hl q k _ e3)).trans e3⟩
theorem RecsL.keep {w w' : World} {n : Nat} {l : List Nat} (u : Upd l w w') (hl : ∀ k, k ∈ l → NotSp w k) : ∀ {rs : List Sp.Rec} {xs : List Value}, RecsL w n rs xs → RecsL w' n rs xs
  | [], xs, h => h
  | r :: rs, xs, h => by
    obtain ⟨a, m, ys, e, h1, h2⟩ := h
    exact ⟨a, m, ys, e, h1.keep u hl, h2.keep u hl⟩
theorem RecsL.ones {w : World} {n : Nat} : ∀ {rs : List Sp.Rec} {xs : List Value}, RecsL w n rs xs → ∀ u ∈ xs, u.oneCell' = true
  | [], xs, h, u, hu => by rw [show xs = [] from h] at hu; cases hu
  | r :: rs, xs, h, u, hu => by
    obtain ⟨a, m, ys, e, h1, h2⟩ := h
    rw [e] at hu
    rcases List.mem_append.mp hu with q | q
    · simp [recV] at q; rcases q with rfl | rfl | rfl | rfl | rfl <;> rfl
    · exact h2.ones u q
/-- A list of records. -/
structure RecsAt (w : World) (b : Nat) (v : Value) (n : Nat) (rs : List Sp.Rec) : Prop where
  ex : ∃ xs, w.ownsRow b 83 5 v rs.length xs ∧ RecsL w n rs xs
theorem RecsAt.nil (w : World) (b n : Nat) : RecsAt w b (.slice none 0 0) n [] := ⟨[], ⟨rfl, Or.inl ⟨rfl, rfl⟩⟩, rfl⟩
theorem RecsAt.keep {w w' : World} {b n : Nat} {v : Value} {rs : List Sp.Rec} (h : RecsAt w b v n rs) {l : List Nat} (u : Upd l w w') (hl : ∀ k, k ∈ l → NotSp w k) (hv : ∀ k, v.ownBlock = some k → k ∉ l) : RecsAt w' b v n rs := by
  obtain ⟨xs, h1, h2⟩ := h.ex
  exact ⟨xs, ownsRow_same h1 (fun k hk hlt => u.block k hlt (hv k hk)), h2.keep u hl⟩
theorem RecsAt.upd {w w' : World} {b n : Nat} {v : Value} {rs : List Sp.Rec} (h : RecsAt w b v n rs) (u : Upd [] w w') : RecsAt w' b v n rs := h.keep u (by simp) (by simp)
theorem RecsAt.mono {w : World} {b b' n : Nat} {v : Value} {rs : List Sp.Rec} (h : RecsAt w b v n rs) (hb : b' ≤ b) : RecsAt w b' v n rs := by
  obtain ⟨xs, ⟨h1, h2⟩, h3⟩ := h.ex
  refine ⟨xs, ⟨h1, ?_⟩, h3⟩
  rcases h2 with q | ⟨g, cap, cur, e1, e2, e3⟩
  · exact Or.inl q
  · exact Or.inr ⟨g, cap, cur, e1, Nat.le_trans hb e2, e3⟩
/-- What type a block has. -/
def TyIs (w : World) (k : Nat) (T : TypeId) : Prop := ∃ a, w.heap[k]? = some (.cells a T (0, 0))
theorem TyIs.ne {w : World} {k q : Nat} {T U : TypeId} (h : TyIs w k T) (h' : TyIs w q U) (hT : T ≠ U) : k ≠ q := by
  rintro rfl
  obtain ⟨a, ha⟩ := h
  obtain ⟨b, hb⟩ := h'
  rw [ha] at hb
  injection hb with hb
  injection hb with _ hb _
  exact hT hb
theorem TyIs.notSp {w : World} {k : Nat} {T : TypeId} (h : TyIs w k T) (hT : T ≠ 41) : NotSp w k := fun a ha => TyIs.ne h ⟨a, ha⟩ hT rfl
theorem CuAt.ty {w : World} {c p lim num from_ len : Nat} {v : Value} {L : List UInt8} (h : CuAt w c p lim num from_ len v L) : TyIs w c 106 := ⟨_, h.cell⟩
theorem CuAt.tyg {w : World} {c p lim num from_ len g h cap : Nat} {L : List UInt8} (C : CuAt w c p lim num from_ len (.slice (some ⟨g, 0, none⟩) h cap) L) : TyIs w g 5 := by
  rcases C.held.2 with ⟨q, _⟩ | ⟨g', cap', cur, q, _, hg, _⟩
  · cases q
  · cases q; exact ⟨_, hg⟩
theorem RecsAt.ty {w : World} {b n : Nat} {v : Value} {rs : List Sp.Rec} (h : RecsAt w b v n rs) {k : Nat} (hk : v.ownBlock = some k) : TyIs w k 83 := by
  obtain ⟨xs, ⟨_, h2⟩, _⟩ := h.ex
  rcases h2 with ⟨q, _⟩ | ⟨g, cap, cur, rfl, _, e3, _⟩
  · subst q; cases hk
  · simp [Value.ownBlock] at hk; subst hk; exact ⟨_, e3⟩
theorem RecsAt.form {w : World} {b n : Nat} {v : Value} {rs : List Sp.Rec} (h : RecsAt w b v n rs) : (v = .slice none 0 0 ∧ rs = []) ∨ ∃ g cap, v = .slice (some ⟨g, 0, none⟩) rs.length cap ∧ b ≤ g ∧ g < w.heap.size ∧ rs.length ≤ cap := by
  obtain ⟨xs, ⟨_, h2⟩, _⟩ := h.ex
  rcases h2 with ⟨q, q'⟩ | ⟨g, cap, cur, rfl, e2, e3, e4, _⟩
  · exact Or.inl ⟨q, List.eq_nil_of_length_eq_zero q'⟩
  · exact Or.inr ⟨g, cap, rfl, e2, lt_of_heap e3, e4⟩
theorem pInfoRec : ∃ i, Try.prog.info? 83 = some i ∧ i.zero = some (.agg #[.int .i64 0, .int .i64 0, .int .i64 0, .int .i64 0, .slice none 0 0]) ∧ i.size = 5 ∧ i.bytes = 56 := by
  have h : (Try.prog.info? 83).map (fun i => (i.zero, i.size, i.bytes)) = some (some (.agg #[.int .i64 0, .int .i64 0, .int .i64 0, .int .i64 0, .slice none 0 0]), 5, 56) := by kernel_rfl
  cases hi : Try.prog.info? 83 with
  | none => rw [hi] at h; cases h
  | some i =>
    rw [hi] at h
    simp only [Option.map_some, Option.some.injEq, Prod.mk.injEq] at h
    exact ⟨i, rfl, h.1, h.2.1, h.2.2⟩
theorem cells_five (w : World) (a b c d e : Value) : ∀ (j : Nat) (u : Value), ([a, b, c, d, e] : List Value)[j]? = some u → (w.alloc (.cells #[a, b, c, d, e] 83)).cell? ((⟨w.heap.size, 0, none⟩ : Addr).add j) = some u := by
  intro j u h
  have hb : (w.alloc (.cells #[a, b, c, d, e] 83)).heap[w.heap.size]? = some (.cells #[a, b, c, d, e] 83 (0, 0)) := heap_new rfl
  have e0 : (⟨w.heap.size, 0, none⟩ : Addr).add j = ⟨w.heap.size, j, none⟩ := by simp [Addr.add]; omega
  rw [e0, World.cell?, hb]
  show (#[a, b, c, d, e] : Array Value)[j]? = some u
  rw [← Array.getElem?_toList]
  exact h
theorem grown_ups {w wr w' : World} {b n : Nat} {v : Value} {T : TypeId} {z : Nat} {xs : List Value} {l : List Nat} (hb : w.heap.size ≤ b) (u : Upd l w wr) (h : wr.ownsRow b T z v n xs) (g : wr.grownBy w' v.ownBlock) : Upd l w w' := by
  have k := Upd.of_grown g
  exact ⟨k.os.trans u.os, k.tape.trans u.tape, k.output.trans u.output, Nat.le_trans u.size k.size, fun i hi hn => (k.block i (Nat.lt_of_lt_of_le hi u.size) (fun q => by
    have e : v.ownBlock = some i := by simpa using q
    have := (ownBlock_lt h e).2; omega)).trans (u.block i hi hn)⟩
theorem RecsAt.grown {w w' : World} {b n : Nat} {v v2 : Value} {b2 : Nat} {rs rs2 : List Sp.Rec} (h : RecsAt w b v n rs) (h2 : RecsAt w b2 v2 n rs2) (g : w.grownBy w' v2.ownBlock) (hne : ∀ k, v2.ownBlock = some k → v.ownBlock ≠ some k) : RecsAt w' b v n rs :=
  h.keep (Upd.of_grown g) (fun k hk => (h2.ty (by simpa using hk)).notSp (by decide)) (fun k hk hm => hne k (by simpa using hm) hk)
theorem RecsAt.slice {w : World} {b n : Nat} {v : Value} {rs : List Sp.Rec} (h : RecsAt w b v n rs) : ∃ a c, v = .slice a rs.length c ∧ rs.length ≤ c := by
  rcases h.form with ⟨rfl, rfl⟩ | ⟨g, cap, rfl, _, _, h2⟩
  · exact ⟨none, 0, rfl, by simp⟩
  · exact ⟨_, cap, rfl, h2⟩
/-- A list of records is appended, whatever it is. -/
theorem wpList_append_rec {w : World} {ops : Array Oper} {rest : List Oper} {o : Oper} {a : Act} {Q : Exit → Act → World → Prop} (hgd : o.guard = none) (s x : Operand)
    (ho : o.op = .call { callee := .builtin .append, args := #[s, x], argTypes := #[54, 54] }) (base n bx : Nat) (v : Value) (rs : List Sp.Rec) (hs : a.eval s = v) (hown : RecsAt w base v n rs)
    (vx : Value) (rs' : List Sp.Rec) (hx : a.eval x = vx) (hxl : RecsAt w bx vx n rs') (h63 : rs.length + rs'.length ≤ 4000000) (hbase : base ≤ w.heap.size)
    (h : ∀ v' w', RecsAt w' base v' n (rs ++ rs') → w.grownBy w' v.ownBlock → wpList Try.prog ops Q rest (a.put o.dst v') w') : wpList Try.prog ops Q (o :: rest) a w := by
  obtain ⟨it, hi1, hi2, hi3, hi4⟩ := pInfoRec
  rcases hxl.form with ⟨rfl, rfl⟩ | ⟨gx, cap, rfl, _⟩
  · obtain ⟨b, c, rfl, hnc⟩ := hown.slice
    exact wpList_append_none hgd s x 54 ho 83 it Try.underlying54 hi1 b _ c hnc hs hx (h _ _ (by rw [List.append_nil]; exact hown) ⟨rfl, rfl, rfl, Nat.le_refl _, fun _ _ _ => rfl⟩)
  · obtain ⟨xs, o1, l1⟩ := hown.ex
    obtain ⟨ys, o2, l2⟩ := hxl.ex
    refine wpList_append_own_at w hgd s x 54 ho base 83 it (.agg #[.int .i64 0, .int .i64 0, .int .i64 0, .int .i64 0, .slice none 0 0]) 5 56 Try.underlying54 hi1 hi2 hi3 hi4 rfl (by decide) v rs.length xs hs o1 ⟨gx, 0, none⟩ rs'.length cap ys hx l2.length (World.ownsRow.cells o2 rfl) l2.ones (by unfold maxLen; omega) (by omega) hbase ?_
    intro v' w' h1 h2 h3 h4
    refine h v' w' ⟨xs ++ ys, by rw [List.length_append]; exact h1, ?_⟩ h2
    have hty : ∀ k, k ∈ v.ownBlock.toList → NotSp w k := fun k hk => (hown.ty (by simpa using hk)).notSp (by decide)
    exact (l1.keep (Upd.of_grown h2) hty).append (l2.keep (Upd.of_grown h2) hty)
end Go.Proofs.Ytcpfpnjkfahjcaa
