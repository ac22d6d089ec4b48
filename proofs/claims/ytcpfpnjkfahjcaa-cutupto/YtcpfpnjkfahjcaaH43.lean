import Derived.Test.YtcpfpnjkfahjcaaH40
import Derived.Test.YtcpfpnjkfahjcaaH41
import Derived.Laws.IdiomStrings
set_option linter.unusedSimpArgs false
set_option linter.unusedVariables false
namespace Go.Proofs.Ytcpfpnjkfahjcaa
open Go.RowKit

/-- A text as bytes of its own. -/
theorem toBytes (s : ByteArray) (w : World) : ∃ cap w', (convert 9 46 (.string s)).run Try.prog w = .ok (.slice (some ⟨w.heap.size, 0, none⟩) s.size cap) w' ∧ s.size ≤ cap ∧ BytesAt w' w.heap.size 0 s.data.toList ∧ Upd [] w w' ∧ w.heap.size < w'.heap.size := by
  refine ⟨_, _, run_bytes_of_string w 9 46 5 s Try.underlying9 Try.underlying46 Try.underlying5, ?_, ?_, ?_, ?_⟩
  · exact grownCap_ge _ _ _ _
  · intro j x hj
    have hj' : j < s.data.size := by
      have := (List.getElem?_eq_some_iff.mp hj).1
      rwa [Array.length_toList] at this
    have e : (w.drew.alloc (.cells (bytesRow s (grownCap w s.size 0 5)) 5 ((bytesRow s (grownCap w s.size 0 5)).size, (bytesRow s (grownCap w s.size 0 5)).size + 1))).cell? ⟨w.heap.size, j, none⟩ = (bytesRow s (grownCap w s.size 0 5))[j]? := World.cell?_alloc_mark w.drew _ _ _ j
    rw [Nat.zero_add, e, bytesRow_at s _ j hj']
    have hx : s.data[j] = x := by
      have := (List.getElem?_eq_some_iff.mp hj).2
      rw [← this]; simp
    rw [hx]; rfl
  · exact Upd.alloc (Upd.drew (Upd.refl _ _)) _
  · show w.heap.size < (w.heap.push _).size
    simp
set_option maxRecDepth 8000 in
set_option maxHeartbeats 800000 in
theorem sOpen_at (p n : Nat) (w : World) (hn : n ≤ 100) : Calls Try.prog 24 #[.pointer (some ⟨p, 0, none⟩), .int .i64 n] w fun e w' => ∃ s c g cap, e = .returned (.tuple #[.pointer (some ⟨s, 0, none⟩), .int .i64 0]) ∧ w.heap.size ≤ g ∧ g < c ∧ c < s ∧ s < w'.heap.size ∧ StAt w' s c ∧ CuSt w' c p n g 0 cap ⟨0, 0, 0, []⟩ ∧ Upd [] w w' := by
  have h1 : ¬ (n : Int) < 0 := by omega
  have h2 : ¬ (100 : Int) < n := by omega
  go_enter Try.func24, Try.ntmps24
  go_wp2_with fail
  refine (cuNew_any p n _ hn).mono ?_
  rintro e w1 ⟨rfl, c1, u1⟩
  have C1 : Hid (CuAt w1 (w.heap.size + 1) p n 0 0 0 (.slice (some ⟨w.heap.size, 0, none⟩) 0 n) []) := c1
  have U1 : Hid (Upd [] w w1) := u1
  clear c1 u1
  go_wp2_with fail
  go_ret2
  have hlt : w.heap.size + 1 < w1.heap.size := lt_of_heap C1.out.cell
  exact ⟨w1.heap.size, w.heap.size + 1, w.heap.size, n, rfl, Nat.le_refl _, by omega, hlt, by show w1.heap.size < (w1.heap.push _).size; simp, heap_new rfl, C1.out.blocks (Below.heap_alloc _ _ _ hlt) (fun k hk => Below.heap_alloc _ _ _ (by simp [Value.ownBlock] at hk; omega)), U1.out.trans (by (repeat (first | exact Upd.refl _ _ | refine Upd.drewN ?_ | refine Upd.drew ?_ | refine Upd.setCell ?_ (by simp) _ | refine Upd.alloc ?_ _)))⟩
/-- A stream whose blocks lie from one place on. -/
structure YSt (w : World) (s c p lim B : Nat) (cu : Sp.Cu) : Prop where
  st : StAt w s c
  cut : ∃ g h cap, CuSt w c p lim g h cap cu ∧ B ≤ g
  hs : B ≤ s
  hc : B ≤ c
theorem YSt.keep {w w' : World} {s c p lim B : Nat} {cu : Sp.Cu} (Y : YSt w s c p lim B cu) {l : List Nat} (u : Upd l w w') (hl : ∀ k, k ∈ l → k < B ∨ TyIs w k 83) : YSt w' s c p lim B cu := by
  obtain ⟨g, h, cap, C, hg⟩ := Y.cut
  have hsn : s ∉ l := fun hm => by
    rcases hl s hm with q | q
    · have := Y.hs; omega
    · exact TyIs.ne q (⟨_, Y.st⟩ : TyIs w s 77) (by decide) rfl
  have hcn : c ∉ l := fun hm => by
    rcases hl c hm with q | q
    · have := Y.hc; omega
    · exact TyIs.ne q (CuAt.ty C) (by decide) rfl
  have hgn : g ∉ l := fun hm => by
    rcases hl g hm with q | q
    · omega
    · exact TyIs.ne q (CuAt.tyg C) (by decide) rfl
  exact ⟨(u.block s (lt_of_heap Y.st) hsn).trans Y.st, ⟨g, h, cap, CuAt.blocks C (u.block c (lt_of_heap C.cell) hcn) (fun k hk => u.block k (ownBlock_lt C.held hk).1 (by simp [Value.ownBlock] at hk; rw [← hk]; exact hgn)), hg⟩, Y.hs, Y.hc⟩
theorem YSt.upd {w w' : World} {s c p lim B : Nat} {cu : Sp.Cu} (Y : YSt w s c p lim B cu) (u : Upd [] w w') : YSt w' s c p lim B cu := Y.keep u (by simp)
/-- What a stream's call leaves alone. -/
structure Frame (B : Nat) (w w' : World) : Prop where
  os : w'.os = w.os
  tape : w'.tape = w.tape
  output : w'.output = w.output
  size : w.heap.size ≤ w'.heap.size
  block : ∀ k, k < w.heap.size → (k < B ∨ TyIs w k 83 ∨ TyIs w k 41) → w'.heap[k]? = w.heap[k]?
theorem Frame.base {B : Nat} {w0 w w' : World} (u : Upd [] w0 w) (f : Frame B w w') (hB : w0.heap.size ≤ B) : Upd [] w0 w' :=
  ⟨f.os.trans u.os, f.tape.trans u.tape, f.output.trans u.output, Nat.le_trans u.size f.size, fun k hk hn => (f.block k (Nat.lt_of_lt_of_le hk u.size) (Or.inl (by omega))).trans (u.block k hk hn)⟩
theorem Frame.of_upd {B : Nat} {w w' : World} {l : List Nat} (u : Upd l w w') (hl : ∀ k, k ∈ l → B ≤ k ∧ ¬ TyIs w k 83 ∧ ¬ TyIs w k 41) : Frame B w w' :=
  ⟨u.os, u.tape, u.output, u.size, fun k hk h => u.block k hk (fun hm => by
    obtain ⟨h1, h2, h3⟩ := hl k hm
    rcases h with q | q | q
    · omega
    · exact h2 q
    · exact h3 q)⟩
theorem RecSp.frame {B : Nat} {w w' : World} {a : Option Addr} {m n : Nat} {r : Option (Nat → Int × Int)} (h : RecSp w a m n r) (f : Frame B w w') : RecSp w' a m n r := by
  cases r with
  | none => exact h
  | some g =>
    obtain ⟨q, e1, e2, e3⟩ := h
    exact ⟨q, e1, e2, (f.block q (lt_of_heap e3) (Or.inr (Or.inr ⟨_, e3⟩))).trans e3⟩
theorem RecsL.frame {B : Nat} {w w' : World} {n : Nat} (f : Frame B w w') : ∀ {rs : List Sp.Rec} {xs : List Value}, RecsL w n rs xs → RecsL w' n rs xs
  | [], xs, h => h
  | r :: rs, xs, h => by
    obtain ⟨a, m, ys, e, h1, h2⟩ := h
    exact ⟨a, m, ys, e, h1.frame f, h2.frame f⟩
theorem RecsAt.frame {B : Nat} {w w' : World} {b n : Nat} {v : Value} {rs : List Sp.Rec} (h : RecsAt w b v n rs) (f : Frame B w w') : RecsAt w' b v n rs := by
  obtain ⟨xs, h1, h2⟩ := h.ex
  exact ⟨xs, ownsRow_same h1 (fun k hk hlt => f.block k hlt (Or.inr (Or.inl (h.ty hk)))), h2.frame f⟩
theorem TyIs.not {w : World} {k : Nat} {T U : TypeId} (h : TyIs w k T) (hT : T ≠ U) : ¬ TyIs w k U := fun h' => TyIs.ne h h' hT rfl
/-- Feed, of such a stream. -/
theorem yFeed (w0 : World) (s c p lim B : Nat) (t : Tr) (n cp : Nat) (cu : Sp.Cu) (K : List UInt8) (w w5 : World) (hl : lim ≤ 100) (hK : K.length ≤ 1050000) (hcp : K.length ≤ cp) (hnum : cu.num ≤ 1050000) (hsum : cu.frm + cu.len ≤ 1050000) (hfit : cu.fit lim) (Y : YSt w s c p lim B cu) (U5 : Upd [] w w5) (hz : w.heap.size < w5.heap.size) (BB : BytesAt w5 w.heap.size 0 K) (P : PatAt w0 p t n) (U0 : Upd [] w0 w) (hB : w0.heap.size ≤ B) : Calls Try.prog 25 #[.pointer (some ⟨s, 0, none⟩), .slice (some ⟨w.heap.size, 0, none⟩) K.length cp] w5 fun e w' => ∃ v, e = .returned (.tuple #[v, .int .i64 0]) ∧ RecsAt w' w5.heap.size v (n + 1) (Sp.feedR (apartS t lim) lim cu K) ∧ YSt w' s c p lim B (Sp.feedC lim cu K) ∧ Frame B w5 w' := by
  have Y5 := Y.upd U5
  obtain ⟨g, h, cap, C, hg⟩ := Y.cut
  have C5 : CuSt w5 c p lim g h cap cu := CuAt.blocks C (U5.block c (lt_of_heap C.cell) (by simp)) (fun k hk => U5.block k (ownBlock_lt C.held hk).1 (by simp))
  have h1 := lt_of_heap C.cell
  have h2 := (ownBlock_lt C.held (g := g) rfl).1
  have hc := Y.hc
  refine (stFeed_any w0 s c p lim g h cap t n w.heap.size 0 cp cu K w5 hl hK hcp hnum hsum hfit BB Y5.st C5 P (U0.trans U5) (by omega) (by omega) hz (by omega) (by omega)).mono ?_
  rintro e w' ⟨v, rfl, F⟩
  obtain ⟨g', h', cap', e1, e2⟩ := F.cut
  have hsz := U5.size
  refine ⟨v, rfl, F.recs, ⟨(F.upd.block s (lt_of_heap Y5.st) ?_).trans Y5.st, ⟨g', h', cap', e2, ?_⟩, Y.hs, Y.hc⟩, Frame.of_upd F.upd ?_⟩
  · simp
    exact ⟨TyIs.ne (⟨_, Y5.st⟩ : TyIs w5 s 77) (CuAt.ty C5) (by decide), TyIs.ne (⟨_, Y5.st⟩ : TyIs w5 s 77) (CuAt.tyg C5) (by decide)⟩
  · rcases e1 with rfl | q
    · exact hg
    · have := Y.hc; omega
  · intro k hk; simp at hk; rcases hk with rfl | rfl
    · exact ⟨hc, (CuAt.ty C5).not (by decide), (CuAt.ty C5).not (by decide)⟩
    · exact ⟨hg, (CuAt.tyg C5).not (by decide), (CuAt.tyg C5).not (by decide)⟩
theorem yHeld (s c p lim B : Nat) (cu : Sp.Cu) (w : World) (Y : YSt w s c p lim B cu) : Calls Try.prog 27 #[.pointer (some ⟨s, 0, none⟩)] w fun e w' => e = .returned (.tuple #[.int .i64 cu.held.length, .int .i64 0]) ∧ Upd [] w w' := by
  obtain ⟨g, h, cap, C, hg⟩ := Y.cut
  exact stHeld_any s c p lim g h cap cu w Y.st C
theorem yClose (s c p lim B : Nat) (t : Tr) (n : Nat) (cu : Sp.Cu) (w : World) (hl : lim ≤ 100) (hnum : cu.num ≤ 2200000) (hsum : cu.frm + cu.len ≤ 2200000) (hfit : cu.fit lim) (Y : YSt w s c p lim B cu) (P : PatAt w p t n) : Calls Try.prog 26 #[.pointer (some ⟨s, 0, none⟩)] w fun e w' => ∃ v, e = .returned (.tuple #[v, .int .i64 0]) ∧ RecsAt w' w.heap.size v (n + 1) (Sp.closeR (apartS t lim) cu) ∧ Frame B w w' := by
  obtain ⟨g, h, cap, C, hg⟩ := Y.cut
  refine (stClose_any s c p lim g h cap t n cu w hl hnum hsum hfit Y.st C P).mono ?_
  rintro e w' ⟨v, rfl, F⟩
  refine ⟨v, rfl, F.recs, Frame.of_upd F.upd ?_⟩
  intro k hk; simp at hk; rcases hk with rfl | rfl
  · exact ⟨Y.hc, (CuAt.ty C).not (by decide), (CuAt.ty C).not (by decide)⟩
  · exact ⟨Y.hs, TyIs.not (⟨_, Y.st⟩ : TyIs w k 77) (by decide), TyIs.not (⟨_, Y.st⟩ : TyIs w k 77) (by decide)⟩
end Go.Proofs.Ytcpfpnjkfahjcaa
