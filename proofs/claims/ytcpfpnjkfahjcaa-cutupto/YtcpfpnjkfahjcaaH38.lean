import Derived.Shelf.Bytes.IndexByte
import Derived.Test.YtcpfpnjkfahjcaaRows
import Derived.Test.YtcpfpnjkfahjcaaH04
/- The library's bytes.IndexByte, by the shelf's contract, at this program's numbers. -/
set_option linter.unusedSimpArgs false
set_option linter.unusedVariables false
namespace Go.Proofs.Ytcpfpnjkfahjcaa
open Go.RowKit Go.Shelf

def ren187 : Go.Shelf.Ren := ⟨fun | 187 => 46 | 255 => 65 | n => n, fun | 37 => 46 | 5 => 5 | 3 => 3 | n => n, fun | n => n⟩
theorem lays187 : Go.Proofs.Lays.n187 Try.prog ren187 := {
  mixed := by kernel_rfl
  f187 := Try.func46.trans (congrArg some (by kernel_rfl))
  f255 := Try.func65.trans (congrArg some (by kernel_rfl))
  t3 := Try.underlying3
  a3 := Try.isAgg3
  z3 := Try.sizeOf3
  v3 := Try.zeroValue3
  t5 := Try.underlying5
  a5 := Try.isAgg5
  z5 := Try.sizeOf5
  v5 := Try.zeroValue5
  t37 := Try.underlying46
  a37 := Try.isAgg46
  z37 := Try.sizeOf46
  v37 := Try.zeroValue46 }
/-- Where the first end stands. -/
def atNl (K : List UInt8) : Int := Lib.indexByte K 10
theorem bytes_nums (K : List UInt8) : Lib.bytesOf (K.map fun x => (x.toNat : Int)) = K := by
  unfold Lib.bytesOf
  rw [List.map_map]
  conv => rhs; rw [← List.map_id K]
  refine List.map_congr_left fun x _ => ?_
  simp
theorem indexNl_any (b off m cp : Nat) (K : List UInt8) (w : World) (hK : K.length = m) (hB : ∀ j x, K[j]? = some x → w.cell? ⟨b, off + j, none⟩ = some (.int .u8 x.toNat)) :
    Calls Try.prog 46 #[.slice (some ⟨b, off, none⟩) m cp, .int .u8 10] w fun e w' => e = .returned (.int .i64 (atNl K)) ∧ w' = w := by
  have := Any.bytes_IndexByte lays187 b off m cp (K.map fun x => (x.toNat : Int)) 10 w (by simp [hK]) (fun i hi => by
    have hx : K[i]? = some K[i] := List.getElem?_eq_getElem (by omega)
    rw [hB i _ hx]
    simp [List.getD_eq_getElem?_getD, List.getElem?_map, hx])
  rw [bytes_nums] at this
  exact this
theorem atNl_spec : ∀ (K : List UInt8), (atNl K = -1 ∧ ∀ x ∈ K, x ≠ 10) ∨ ∃ A M, K = A ++ 10 :: M ∧ (∀ x ∈ A, x ≠ 10) ∧ atNl K = A.length
  | [] => Or.inl ⟨rfl, by simp⟩
  | x :: K => by
    by_cases hx : x = 10
    · subst hx
      exact Or.inr ⟨[], K, rfl, by simp, rfl⟩
    · have hx' : (x == 10) = false := by simpa using hx
      rcases atNl_spec K with ⟨h1, h2⟩ | ⟨A, M, h1, h2, h3⟩
      · left
        refine ⟨?_, fun y hy => ?_⟩
        · show Lib.indexByte (x :: K) 10 = -1
          rw [Lib.indexByte, hx']
          have : Lib.indexByte K 10 = -1 := h1
          simp [this]
        · rcases List.mem_cons.mp hy with rfl | q
          · exact hx
          · exact h2 y q
      · right
        refine ⟨x :: A, M, by rw [h1]; rfl, fun y hy => ?_, ?_⟩
        · rcases List.mem_cons.mp hy with rfl | q
          · exact hx
          · exact h2 y q
        · show Lib.indexByte (x :: K) 10 = _
          rw [Lib.indexByte, hx']
          have h4 : Lib.indexByte K 10 = A.length := h3
          rw [h4]
          have : ((A.length : Int) == -1) = false := by simp
          simp [this]
end Go.Proofs.Ytcpfpnjkfahjcaa

set_option linter.unusedSimpArgs false
set_option linter.unusedVariables false
namespace Go.Proofs.Ytcpfpnjkfahjcaa
namespace Sp

/-- What a stream tells of one record. -/
structure Rec where
  num : Nat
  frm : Nat
  len : Nat
  code : Int
  sp : Option (Nat → Int × Int)
/-- How far a stream is. -/
structure Cu where
  num : Nat
  frm : Nat
  len : Nat
  held : List UInt8
abbrev Ap := Nat → Nat → List UInt8 → Int × Option (Nat → Int × Int)
def overR (ap : Ap) (c : Cu) : Rec := ⟨c.num, c.frm, c.len, (ap c.frm c.len c.held).1, (ap c.frm c.len c.held).2⟩
def nextC (c : Cu) : Cu := ⟨c.num + 1, c.frm + c.len + 1, 0, []⟩
def takeC (lim : Nat) (c : Cu) (K : List UInt8) : Cu := ⟨c.num, c.frm, c.len + K.length, c.held ++ K.take (lim - c.held.length)⟩
def feedR (ap : Ap) (lim : Nat) : Cu → List UInt8 → List Rec
  | _, [] => []
  | c, x :: K => if x = 10 then overR ap c :: feedR ap lim (nextC c) K else feedR ap lim (takeC lim c [x]) K
def feedC (lim : Nat) : Cu → List UInt8 → Cu
  | c, [] => c
  | c, x :: K => if x = 10 then feedC lim (nextC c) K else feedC lim (takeC lim c [x]) K
def closeR (ap : Ap) (c : Cu) : List Rec := if c.len = 0 then [] else [overR ap c]
def restR (ap : Ap) (lim : Nat) (c : Cu) (K : List UInt8) : List Rec := feedR ap lim c K ++ closeR ap (feedC lim c K)

theorem takeC_nil (lim : Nat) (c : Cu) : takeC lim c [] = c := by cases c; simp [takeC]
theorem takeC_cons (lim : Nat) (c : Cu) (x : UInt8) (K : List UInt8) : takeC lim (takeC lim c [x]) K = takeC lim c (x :: K) := by
  cases c with
  | mk a b d L =>
    simp only [takeC, List.length_cons, List.length_nil, Cu.mk.injEq, true_and]
    refine ⟨by omega, ?_⟩
    rcases Nat.eq_zero_or_pos (lim - L.length) with h | h
    · simp [h]
    · obtain ⟨k, hk⟩ : ∃ k, lim - L.length = k + 1 := ⟨lim - L.length - 1, by omega⟩
      have e : lim - (L ++ [x]).length = k := by simp; omega
      rw [hk]
      simp only [List.take_succ_cons, List.take_nil, List.take_zero, e, List.append_assoc, List.singleton_append]
theorem feedR_take (ap : Ap) (lim : Nat) : ∀ (K : List UInt8) (c : Cu) (M : List UInt8), (∀ x ∈ K, x ≠ 10) → feedR ap lim c (K ++ M) = feedR ap lim (takeC lim c K) M
  | [], c, M, _ => by rw [takeC_nil]; rfl
  | x :: K, c, M, h => by
    rw [List.cons_append, feedR, if_neg (h x (by simp)), feedR_take ap lim K _ M (fun y hy => h y (by simp [hy])), takeC_cons]
theorem feedC_take (lim : Nat) : ∀ (K : List UInt8) (c : Cu) (M : List UInt8), (∀ x ∈ K, x ≠ 10) → feedC lim c (K ++ M) = feedC lim (takeC lim c K) M
  | [], c, M, _ => by rw [takeC_nil]; rfl
  | x :: K, c, M, h => by
    rw [List.cons_append, feedC, if_neg (h x (by simp)), feedC_take lim K _ M (fun y hy => h y (by simp [hy])), takeC_cons]
theorem feedR_nl (ap : Ap) (lim : Nat) (c : Cu) (M : List UInt8) : feedR ap lim c (10 :: M) = overR ap c :: feedR ap lim (nextC c) M := by rw [feedR, if_pos rfl]
theorem feedC_nl (lim : Nat) (c : Cu) (M : List UInt8) : feedC lim c (10 :: M) = feedC lim (nextC c) M := by rw [feedC, if_pos rfl]
theorem feedC_append (lim : Nat) : ∀ (A : List UInt8) (c : Cu) (B : List UInt8), feedC lim c (A ++ B) = feedC lim (feedC lim c A) B
  | [], c, B => rfl
  | x :: A, c, B => by
    rw [List.cons_append, feedC, feedC]
    split
    · exact feedC_append lim A _ B
    · exact feedC_append lim A _ B
theorem feedR_append (ap : Ap) (lim : Nat) : ∀ (A : List UInt8) (c : Cu) (B : List UInt8), feedR ap lim c (A ++ B) = feedR ap lim c A ++ feedR ap lim (feedC lim c A) B
  | [], c, B => rfl
  | x :: A, c, B => by
    rw [List.cons_append, feedR, feedR, feedC]
    split
    · rw [feedR_append ap lim A _ B]; rfl
    · exact feedR_append ap lim A _ B
theorem restR_append (ap : Ap) (lim : Nat) (A : List UInt8) (c : Cu) (B : List UInt8) : restR ap lim c (A ++ B) = feedR ap lim c A ++ restR ap lim (feedC lim c A) B := by
  unfold restR; rw [feedR_append, feedC_append, List.append_assoc]
theorem restR_cons_nl (ap : Ap) (lim : Nat) (c : Cu) (M : List UInt8) : restR ap lim c (10 :: M) = overR ap c :: restR ap lim (nextC c) M := by
  unfold restR; rw [feedR_nl, feedC_nl]; rfl
theorem restR_cons (ap : Ap) (lim : Nat) (c : Cu) (x : UInt8) (M : List UInt8) (h : x ≠ 10) : restR ap lim c (x :: M) = restR ap lim (takeC lim c [x]) M := by
  unfold restR; rw [feedR, feedC, if_neg h, if_neg h]
theorem restR_nil (ap : Ap) (lim : Nat) (c : Cu) : restR ap lim c [] = closeR ap c := rfl
/-- As many are held as there may be. -/
def Cu.fit (lim : Nat) (c : Cu) : Prop := c.held.length = min c.len lim
theorem fit_take {lim : Nat} {c : Cu} (h : c.fit lim) (K : List UInt8) : (takeC lim c K).fit lim := by
  unfold Cu.fit at *; simp [takeC]; omega
theorem fit_next (lim : Nat) (c : Cu) : (nextC c).fit lim := by simp [Cu.fit, nextC]
theorem fit_feed (lim : Nat) : ∀ (K : List UInt8) (c : Cu), c.fit lim → (feedC lim c K).fit lim
  | [], c, h => h
  | x :: K, c, h => by
    rw [feedC]; split
    · exact fit_feed lim K _ (fit_next lim c)
    · exact fit_feed lim K _ (fit_take h _)
/-- How many bytes there are behind the last end. -/
def openL : Nat → List UInt8 → Nat
  | o, [] => o
  | o, x :: K => if x = 10 then openL 0 K else openL (o + 1) K
theorem openL_append : ∀ (A : List UInt8) (o : Nat) (B : List UInt8), openL o (A ++ B) = openL (openL o A) B
  | [], o, B => rfl
  | x :: A, o, B => by
    rw [List.cons_append, openL, openL]; split
    · exact openL_append A _ B
    · exact openL_append A _ B
theorem feedC_len (lim : Nat) : ∀ (K : List UInt8) (c : Cu), (feedC lim c K).len = openL c.len K
  | [], c => rfl
  | x :: K, c => by
    rw [feedC, openL]; split
    · exact feedC_len lim K _
    · exact feedC_len lim K _
theorem feedC_sum (lim : Nat) : ∀ (K : List UInt8) (c : Cu), (feedC lim c K).frm + (feedC lim c K).len = c.frm + c.len + K.length
  | [], c => rfl
  | x :: K, c => by
    rw [feedC]; split
    · rw [feedC_sum lim K _]; simp [nextC]; omega
    · rw [feedC_sum lim K _]; simp [takeC]; omega
theorem feedC_num (lim : Nat) (ap : Ap) : ∀ (K : List UInt8) (c : Cu), (feedC lim c K).num = c.num + (feedR ap lim c K).length
  | [], c => rfl
  | x :: K, c => by
    rw [feedC, feedR]; split
    · rw [feedC_num lim ap K _]; simp [nextC]; omega
    · rw [feedC_num lim ap K _]; simp [takeC]
theorem feedR_length (lim : Nat) (ap : Ap) : ∀ (K : List UInt8) (c : Cu), (feedR ap lim c K).length ≤ K.length
  | [], c => Nat.le_refl _
  | x :: K, c => by
    rw [feedR]; split
    · have := feedR_length lim ap K (nextC c); simp; omega
    · have := feedR_length lim ap K (takeC lim c [x]); simp; omega
/-- Where a stream of this text is, so far. -/
structure StrAt (lim : Nat) (S : List UInt8) (i : Nat) (c : Cu) : Prop where
  sum : c.frm + c.len = i
  held : c.held = ((S.drop c.frm).take c.len).take lim
theorem StrAt.zero (lim : Nat) (S : List UInt8) : StrAt lim S 0 ⟨0, 0, 0, []⟩ := ⟨rfl, by simp⟩
theorem StrAt.next {lim : Nat} {S : List UInt8} {i : Nat} {c : Cu} (h : StrAt lim S i c) : StrAt lim S (i + 1) (nextC c) := ⟨by simp [nextC]; have := h.sum; omega, by simp [nextC]⟩
theorem StrAt.take {lim : Nat} {S : List UInt8} {i : Nat} {c : Cu} (h : StrAt lim S i c) {x : UInt8} (hx : S[i]? = some x) : StrAt lim S (i + 1) (takeC lim c [x]) := by
  have hs := h.sum
  have hi : i < S.length := by
    rcases Nat.lt_or_ge i S.length with q | q
    · exact q
    · rw [List.getElem?_eq_none q] at hx; cases hx
  refine ⟨by simp [takeC]; omega, ?_⟩
  simp only [takeC, List.length_cons, List.length_nil]
  have e : (S.drop c.frm).take (c.len + 1) = (S.drop c.frm).take c.len ++ [x] := by
    rw [List.take_add_one, List.getElem?_drop, hs, hx]; rfl
  have hl : ((S.drop c.frm).take c.len).length = c.len := by simp; omega
  rw [Nat.zero_add, e, List.take_append, h.held, hl]
  congr 1
  rw [List.length_take, hl]
  rcases Nat.lt_or_ge c.len lim with q | q
  · rw [Nat.min_eq_right (by omega)]
  · rw [Nat.min_eq_left (by omega)]; have : lim - c.len = 0 := by omega
    simp [this]
end Sp
end Go.Proofs.Ytcpfpnjkfahjcaa
