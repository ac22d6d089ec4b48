import Derived.Test.YtcpfpnjkfahjcaaH32
set_option linter.unusedSimpArgs false
set_option linter.unusedVariables false
namespace Go.Proofs.Ytcpfpnjkfahjcaa
open Go.RowKit

theorem extract_size (s : ByteArray) {a b : Nat} (hb : b ≤ s.size) : (s.extract a b).size = b - a := by rw [ByteArray.size_extract]; omega
theorem map_sh0 (l : List Sp.Gr) : l.map (Sp.sh 0) = l := by
  have : Sp.sh 0 = id := by funext x; rfl
  rw [this, List.map_id]
/-- What a pattern says of a beginning of a text. -/
theorem wholeS_pre (t : Tr) (s : ByteArray) (k : Nat) (hk : k ≤ s.size) : wholeS t (s.extract 0 k) = if (Sp.sem s t).m 0 k then some (Sp.spansOf ((Sp.sem s t).g 0 k) k) else none := by
  have hz := extract_size s (a := 0) hk
  have e1 := Sp.part_m hk (Nat.zero_le k) t
  have e2 := Sp.part_g hk (Nat.zero_le k) t
  rw [map_sh0] at e2
  unfold wholeS
  rw [hz]
  simp only [Nat.sub_zero] at *
  rw [e1, e2]
theorem wholeS_pre_no (t : Tr) (s : ByteArray) (k : Nat) (hk : k ≤ s.size) (h : (Sp.sem s t).m 0 k = false) : wholeS t (s.extract 0 k) = none := by
  rw [wholeS_pre t s k hk, h]; rfl
theorem wholeS_pre_yes (t : Tr) (s : ByteArray) (k : Nat) (hk : k ≤ s.size) (h : (Sp.sem s t).m 0 k = true) : wholeS t (s.extract 0 k) = some (Sp.spansOf ((Sp.sem s t).g 0 k) k) := by
  rw [wholeS_pre t s k hk, h]; rfl
/-- Each group is nowhere, or within the whole. -/
theorem spans_in (t : Tr) (s : ByteArray) (k c : Nat) (h : (Sp.sem s t).m 0 k = true) : Sp.spansOf ((Sp.sem s t).g 0 k) k c = (-1, -1) ∨ (0 ≤ (Sp.spansOf ((Sp.sem s t).g 0 k) k c).1 ∧ (Sp.spansOf ((Sp.sem s t).g 0 k) k c).1 ≤ (Sp.spansOf ((Sp.sem s t).g 0 k) k c).2 ∧ (Sp.spansOf ((Sp.sem s t).g 0 k) k c).2 ≤ k) := by
  unfold Sp.spansOf
  rcases Sp.puts_is c ((0, 0, k) :: (Sp.sem s t).g 0 k) with q | ⟨x, h1, h2, h3⟩
  · exact Or.inl q
  · right
    rw [h3]
    rcases List.mem_cons.mp h1 with q | q
    · subst q; simp
    · have := Sp.sem_in s t 0 k h x q
      simp; omega
theorem spans_zero {t : Tr} {n : Nat} (hc : Sp.Can [t]) (hn : Sp.NumIn 0 n [t]) (s : ByteArray) (k : Nat) : Sp.spansOf ((Sp.sem s t).g 0 k) k 0 = (0, (k : Int)) :=
  Sp.spansOf_zero _ _ (fun x hx => by have := Sp.sem_num s hn hc 0 k x hx; have := this.1; omega)
theorem PatAt.zero {w : World} {p : Nat} {t : Tr} {n : Nat} (h : PatAt w p t n) (s : ByteArray) (k : Nat) : Sp.spansOf ((Sp.sem s t).g 0 k) k 0 = (0, (k : Int)) := by
  obtain ⟨_, root, S, _, h2⟩ := h
  exact spans_zero h2.can h2.num s k

end Go.Proofs.Ytcpfpnjkfahjcaa
