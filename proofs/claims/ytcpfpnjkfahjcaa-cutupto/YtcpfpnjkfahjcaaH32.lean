import Derived.Test.YtcpfpnjkfahjcaaH31
import Derived.Test.YtcpfpnjkfahjcaaH11
import Derived.Test.YtcpfpnjkfahjcaaH03
import Derived.Test.YtcpfpnjkfahjcaaH04
set_option linter.unusedSimpArgs false
set_option linter.unusedVariables false
namespace Go.Proofs.Ytcpfpnjkfahjcaa
open Go.RowKit

/-- A pattern of the program's, as it lies: its tree, how many groups are told. -/
def PatAt (w : World) (p : Nat) (t : Tr) (n : Nat) : Prop := n ≤ 9 ∧ ∃ root S, PpAt w p root n ∧ TreeAt w S root n t
theorem PatAt.lt {w : World} {p : Nat} {t : Tr} {n : Nat} (h : PatAt w p t n) : p < w.heap.size := by
  obtain ⟨_, root, S, h1, _⟩ := h; exact lt_of_heap h1
theorem PatAt.upd {w w' : World} {p : Nat} {t : Tr} {n : Nat} (h : PatAt w p t n) (u : Upd [] w w') : PatAt w' p t n := by
  obtain ⟨h0, root, S, h1, h2⟩ := h
  exact ⟨h0, root, S, (u.block p (lt_of_heap h1) (by simp)).trans h1, h2.upd u (by simp)⟩
/-- What Compile answers. -/
def CompOut (s : ByteArray) (w : World) (e : Ending) (w' : World) : Prop := Upd [] w w' ∧ match Sp.read s with
  | .ok (t, n) => ∃ p, e = .returned (.tuple #[.pointer (some ⟨p, 0, none⟩), .int .i64 0, .int .i64 0]) ∧ w.heap.size ≤ p ∧ PatAt w' p t n.toNat
  | .error (e1, a1) => e = .returned (.tuple #[.pointer none, .int .i64 e1, .int .i64 a1])
theorem comp_any (s : ByteArray) (w : World) : Calls Try.prog 11 #[.string s] w (CompOut s w) := by
  refine (sCompile_any s w).mono ?_
  rintro e w' ⟨u, h⟩
  refine ⟨u, ?_⟩
  revert h
  cases hr : Sp.read s with
  | error f => obtain ⟨a, b⟩ := f; exact id
  | ok v =>
    obtain ⟨t, n⟩ := v
    rintro ⟨p, root, h1, h2, h3, h4⟩
    have hn := Sp.read_num hr
    have h9 := (Sp.read_choice hr).2.2.2
    have en : ((n.toNat : Nat) : Int) = n := by omega
    refine ⟨p, h1, h2, by omega, root, _, by rw [en]; exact h3, h4, Sp.read_can hr, (Sp.read_made hr).2, by rw [en]; exact hn.2⟩

set_option maxHeartbeats 800000 in
theorem refuses_ok (p : Nat) (t : ByteArray) (w : World) (ht : t.size ≤ 100) : Calls Try.prog 32 #[ptr p, .string t] w fun e w' => e = .returned (.int .i64 0) ∧ w' = w := by
  have ht' : ¬ (100 : Int) < t.size := by omega
  unfold ptr
  go_enter Try.func32, Try.ntmps32
  go_wp2
  go_ret
  exact ⟨rfl, rfl⟩
theorem mWhole_no (S : Nat → Prop) (t : ByteArray) (p m : Nat) (u : Tr) (w : World) (ht : t.size ≤ 100) (hm : m ≤ 100) (hT : TreeAt w S p m u) (hr : wholeS u t = none) :
    Calls Try.prog 45 #[ptr p, .int .i64 m, .string t] w fun e w' => e = .returned (.slice none 0 0) ∧ Upd [] w w' := by
  refine (mWhole_any S t p m u w ht hm hT).mono ?_
  rw [hr]
  rintro e w' ⟨u, h⟩; exact ⟨h, u⟩
theorem mWhole_yes (S : Nat → Prop) (t : ByteArray) (p m : Nat) (u : Tr) (w : World) (ht : t.size ≤ 100) (hm : m ≤ 100) (hT : TreeAt w S p m u) {f : Nat → Int × Int} (hr : wholeS u t = some f) :
    Calls Try.prog 45 #[ptr p, .int .i64 m, .string t] w fun e w' => ∃ g, w.heap.size ≤ g ∧ e = .returned (spansV g (m + 1)) ∧ SpansAt w' g (m + 1) f ∧ Upd [] w w' := by
  refine (mWhole_any S t p m u w ht hm hT).mono ?_
  rw [hr]
  rintro e w' ⟨u, g, h1, h2, h3⟩; exact ⟨g, h1, h2, h3, u⟩
set_option maxHeartbeats 800000 in
theorem sWhole_any (p : Nat) (u : Tr) (n : Nat) (t : ByteArray) (w : World) (ht : t.size ≤ 100) (h : PatAt w p u n) : Calls Try.prog 35 #[ptr p, .string t] w (WholeOut (n + 1) (wholeS u t) w) := by
  obtain ⟨hn, root, S, h1, h2⟩ := h
  have c0 : w.cell? ⟨p, 0, none⟩ = some (.pointer (some ⟨root, 0, none⟩)) := by unfold PpAt at h1; simp [World.cell?, h1, ptr]
  have c1 : w.cell? ⟨p, 1, none⟩ = some (.int .i64 n) := by unfold PpAt at h1; simp [World.cell?, h1]
  have H2 : Hid (TreeAt w S root n u) := h2
  clear h1 h2
  unfold ptr
  cases hr : wholeS u t with
  | none =>
    have HR : Hid (wholeS u t = none) := hr
    clear hr
    go_enter Try.func35, Try.ntmps35
    go_wp2_with fail
    go_region_with (go_at_call 45; refine (mWhole_no S t root n u _ ht (by omega) (TreeAt.upd (l := []) H2.out (by (repeat (first | exact Upd.refl _ _ | refine Upd.drewN ?_ | refine Upd.drew ?_ | refine Upd.setCell ?_ (by simp) _ | refine Upd.alloc ?_ _))) (by simp)) HR.out).mono ?_; rintro e w1 ⟨rfl, u1⟩; have HU : Hid (Upd [] w w1) := Upd.trans (by (repeat (first | exact Upd.refl _ _ | refine Upd.drewN ?_ | refine Upd.drew ?_ | refine Upd.setCell ?_ (by simp) _ | refine Upd.alloc ?_ _))) u1; clear u1)
    all_goals go_wp2_with fail
    all_goals go_ret
    all_goals exact WholeOut.mk_no rfl HU.out rfl
  | some f =>
    have HR : Hid (wholeS u t = some f) := hr
    clear hr
    go_enter Try.func35, Try.ntmps35
    go_wp2_with fail
    go_region_with (go_at_call 45; refine (mWhole_yes S t root n u _ ht (by omega) (TreeAt.upd (l := []) H2.out (by (repeat (first | exact Upd.refl _ _ | refine Upd.drewN ?_ | refine Upd.drew ?_ | refine Upd.setCell ?_ (by simp) _ | refine Upd.alloc ?_ _))) (by simp)) HR.out).mono ?_; rintro e w1 ⟨g, hg, rfl, hs, u1⟩; have HU : Hid (Upd [] w w1) := Upd.trans (by (repeat (first | exact Upd.refl _ _ | refine Upd.drewN ?_ | refine Upd.drew ?_ | refine Upd.setCell ?_ (by simp) _ | refine Upd.alloc ?_ _))) u1; have HG : Hid (w.heap.size ≤ g) := hg; have HS : Hid (SpansAt w1 g (n + 1) f) := hs; clear u1 hs hg; unfold spansV)
    all_goals go_wp2_with fail
    all_goals go_ret
    all_goals exact WholeOut.mk_yes rfl HU.out ⟨g, HG.out, rfl, HS.out⟩
/-- What Match answers. -/
def MatchOut (n : Nat) (r : Option (Nat → Int × Int)) (w : World) (e : Ending) (w' : World) : Prop :=
  Upd [] w w' ∧ match r with
  | none => e = .returned (.tuple #[.slice none 0 0, .int .i64 0])
  | some f => ∃ g, w.heap.size ≤ g ∧ e = .returned (.tuple #[spansV g n, .int .i64 0]) ∧ SpansAt w' g n f
theorem MatchOut.mk_no {n : Nat} {r : Option (Nat → Int × Int)} {w w' : World} {e : Ending} (h : r = none) (u : Upd [] w w') (he : e = .returned (.tuple #[.slice none 0 0, .int .i64 0])) : MatchOut n r w e w' := by
  subst h; exact ⟨u, he⟩
theorem MatchOut.mk_yes {n : Nat} {r : Option (Nat → Int × Int)} {w w' : World} {e : Ending} {f : Nat → Int × Int} (h : r = some f) (u : Upd [] w w') (k : ∃ g, w.heap.size ≤ g ∧ e = .returned (.tuple #[spansV g n, .int .i64 0]) ∧ SpansAt w' g n f) : MatchOut n r w e w' := by
  subst h; exact ⟨u, k⟩
set_option maxHeartbeats 800000 in
theorem sMatch_any (p : Nat) (u : Tr) (n : Nat) (t : ByteArray) (w : World) (ht : t.size ≤ 100) (h : PatAt w p u n) : Calls Try.prog 30 #[ptr p, .string t] w (MatchOut (n + 1) (wholeS u t) w) := by
  have H : Hid (PatAt w p u n) := h
  clear h
  unfold ptr
  go_enter Try.func30, Try.ntmps30
  go_wp2_with fail
  refine (refuses_ok p t _ ht).mono ?_
  rintro e w1 ⟨rfl, hw1⟩
  rw [hw1]
  clear hw1 w1
  go_wp2_with fail
  refine (sWhole_any p u n t _ ht H.out).mono ?_
  rintro e w1 ⟨u1, h1⟩
  revert h1
  cases hr : wholeS u t with
  | none =>
    rintro rfl
    have HU : Hid (Upd [] w w1) := u1
    have HR : Hid (wholeS u t = none) := hr
    clear u1 hr
    go_wp2_with fail
    go_ret2
    exact MatchOut.mk_no HR.out HU.out rfl
  | some f =>
    rintro ⟨g, hg, rfl, hs⟩
    have HU : Hid (Upd [] w w1) := u1
    have HS : Hid (SpansAt w1 g (n + 1) f) := hs
    have HR : Hid (wholeS u t = some f) := hr
    clear u1 hr hs
    unfold spansV
    go_wp2_with fail
    go_ret2
    exact MatchOut.mk_yes HR.out HU.out ⟨g, hg, rfl, HS.out⟩
/-- What the call Longest answers. -/
def SLongOut (n : Nat) (u : Tr) (t : ByteArray) (r : Option Nat) (w : World) (e : Ending) (w' : World) : Prop :=
  Upd [] w w' ∧ match r with
  | none => e = .returned (.tuple #[.int .i64 (-1), .slice none 0 0, .int .i64 0])
  | some k => ∃ g, w.heap.size ≤ g ∧ e = .returned (.tuple #[.int .i64 k, spansV g n, .int .i64 0]) ∧ SpansAt w' g n (Sp.spansOf ((Sp.sem t u).g 0 k) k)
theorem SLongOut.mk_no {n : Nat} {u : Tr} {t : ByteArray} {r : Option Nat} {w w' : World} {e : Ending} (h : r = none) (q : Upd [] w w') (he : e = .returned (.tuple #[.int .i64 (-1), .slice none 0 0, .int .i64 0])) : SLongOut n u t r w e w' := by
  subst h; exact ⟨q, he⟩
theorem SLongOut.mk_yes {n : Nat} {u : Tr} {t : ByteArray} {r : Option Nat} {w w' : World} {e : Ending} {k : Nat} (h : r = some k) (q : Upd [] w w') (x : ∃ g, w.heap.size ≤ g ∧ e = .returned (.tuple #[.int .i64 k, spansV g n, .int .i64 0]) ∧ SpansAt w' g n (Sp.spansOf ((Sp.sem t u).g 0 k) k)) : SLongOut n u t r w e w' := by
  subst h; exact ⟨q, x⟩
theorem mLongest_no (S : Nat → Prop) (t : ByteArray) (p m : Nat) (u : Tr) (w : World) (ht : t.size ≤ 100) (hm : m ≤ 100) (hT : TreeAt w S p m u) (hr : longS u t = none) :
    Calls Try.prog 33 #[ptr p, .int .i64 m, .string t] w fun e w' => e = .returned (.tuple #[.int .i64 (-1), .slice none 0 0]) ∧ Upd [] w w' := by
  refine (mLongest_any S t p m u w ht hm hT).mono ?_
  rw [hr]
  rintro e w' ⟨u, h⟩; exact ⟨h, u⟩
theorem mLongest_yes (S : Nat → Prop) (t : ByteArray) (p m : Nat) (u : Tr) (w : World) (ht : t.size ≤ 100) (hm : m ≤ 100) (hT : TreeAt w S p m u) {k : Nat} (hr : longS u t = some k) :
    Calls Try.prog 33 #[ptr p, .int .i64 m, .string t] w fun e w' => ∃ g, w.heap.size ≤ g ∧ e = .returned (.tuple #[.int .i64 k, spansV g (m + 1)]) ∧ SpansAt w' g (m + 1) (Sp.spansOf ((Sp.sem t u).g 0 k) k) ∧ Upd [] w w' := by
  refine (mLongest_any S t p m u w ht hm hT).mono ?_
  rw [hr]
  rintro e w' ⟨u, g, h1, h2, h3⟩; exact ⟨g, h1, h2, h3, u⟩
set_option maxHeartbeats 1600000 in
theorem sLongest_any (p : Nat) (u : Tr) (n : Nat) (t : ByteArray) (w : World) (ht : t.size ≤ 100) (h : PatAt w p u n) : Calls Try.prog 20 #[ptr p, .string t] w (SLongOut (n + 1) u t (longS u t) w) := by
  obtain ⟨hn, root, S, h1, h2⟩ := h
  have c0 : w.cell? ⟨p, 0, none⟩ = some (.pointer (some ⟨root, 0, none⟩)) := by unfold PpAt at h1; simp [World.cell?, h1, ptr]
  have c1 : w.cell? ⟨p, 1, none⟩ = some (.int .i64 n) := by unfold PpAt at h1; simp [World.cell?, h1]
  have H2 : Hid (TreeAt w S root n u) := h2
  clear h1 h2
  unfold ptr
  cases hr : longS u t with
  | none =>
    have HR : Hid (longS u t = none) := hr
    clear hr
    go_enter Try.func20, Try.ntmps20
    go_wp2_with fail
    refine (refuses_ok p t _ ht).mono ?_
    rintro e w1 ⟨rfl, hw1⟩
    rw [hw1]
    clear hw1 w1
    go_wp2_with fail
    go_region_with (go_at_call 33; refine (mLongest_no S t root n u _ ht (by omega) (TreeAt.upd (l := []) H2.out (by (repeat (first | exact Upd.refl _ _ | refine Upd.drewN ?_ | refine Upd.drew ?_ | refine Upd.setCell ?_ (by simp) _ | refine Upd.alloc ?_ _))) (by simp)) HR.out).mono ?_; rintro e w1 ⟨rfl, u1⟩; have HU : Hid (Upd [] w w1) := Upd.trans (by (repeat (first | exact Upd.refl _ _ | refine Upd.drewN ?_ | refine Upd.drew ?_ | refine Upd.setCell ?_ (by simp) _ | refine Upd.alloc ?_ _))) u1; clear u1)
    all_goals go_wp2_with fail
    all_goals go_ret3
    all_goals exact SLongOut.mk_no rfl HU.out rfl
  | some k =>
    have HR : Hid (longS u t = some k) := hr
    clear hr
    go_enter Try.func20, Try.ntmps20
    go_wp2_with fail
    refine (refuses_ok p t _ ht).mono ?_
    rintro e w1 ⟨rfl, hw1⟩
    rw [hw1]
    clear hw1 w1
    go_wp2_with fail
    go_region_with (go_at_call 33; refine (mLongest_yes S t root n u _ ht (by omega) (TreeAt.upd (l := []) H2.out (by (repeat (first | exact Upd.refl _ _ | refine Upd.drewN ?_ | refine Upd.drew ?_ | refine Upd.setCell ?_ (by simp) _ | refine Upd.alloc ?_ _))) (by simp)) HR.out).mono ?_; rintro e w1 ⟨g, hg, rfl, hs, u1⟩; have HU : Hid (Upd [] w w1) := Upd.trans (by (repeat (first | exact Upd.refl _ _ | refine Upd.drewN ?_ | refine Upd.drew ?_ | refine Upd.setCell ?_ (by simp) _ | refine Upd.alloc ?_ _))) u1; have HG : Hid (w.heap.size ≤ g) := hg; have HS : Hid (SpansAt w1 g (n + 1) (Sp.spansOf ((Sp.sem t u).g 0 k) k)) := hs; clear u1 hs hg; unfold spansV)
    all_goals go_wp2_with fail
    all_goals go_ret3
    all_goals exact SLongOut.mk_yes rfl HU.out ⟨g, HG.out, rfl, HS.out⟩
end Go.Proofs.Ytcpfpnjkfahjcaa

set_option linter.unusedSimpArgs false
set_option linter.unusedVariables false
namespace Go.Proofs.Ytcpfpnjkfahjcaa
open Go.RowKit

/-- The cells of spans. -/
def flat (n : Nat) (f : Nat → Int × Int) : List Value := (spArr n f).toList
theorem flat_length (n : Nat) (f : Nat → Int × Int) : (flat n f).length = n * 2 := by unfold flat; rw [Array.length_toList, spArr_size]; omega
theorem flat_get (n : Nat) (f : Nat → Int × Int) (i : Nat) : (flat n f)[i]? = if i < 2 * n then some (if i % 2 = 0 then .int .i64 (f (i / 2)).1 else .int .i64 (f (i / 2)).2) else none := by
  unfold flat; rw [Array.getElem?_toList, spArr_get]
theorem flat_congr {n : Nat} {f g : Nat → Int × Int} (h : ∀ k, k < n → f k = g k) : flat n f = flat n g := by unfold flat; rw [spArr_congr h]
theorem flat_cons (n : Nat) (f : Nat → Int × Int) : flat (n + 1) f = .int .i64 (f 0).1 :: .int .i64 (f 0).2 :: flat n (fun k => f (k + 1)) := by
  apply List.ext_getElem?
  intro i
  match i with
  | 0 => rw [flat_get, if_pos (by omega)]; rfl
  | 1 => rw [flat_get, if_pos (by omega)]; rfl
  | i + 2 =>
    rw [List.getElem?_cons_succ, List.getElem?_cons_succ, flat_get, flat_get]
    by_cases h : i < 2 * n
    · rw [if_pos h, if_pos (by omega), show (i + 2) / 2 = i / 2 + 1 by omega, show (i + 2) % 2 = i % 2 by omega]
    · rw [if_neg h, if_neg (by omega)]
theorem flat_append (n m : Nat) (f g : Nat → Int × Int) : flat n f ++ flat m g = flat (n + m) (fun k => if k < n then f k else g (k - n)) := by
  apply List.ext_getElem?
  intro i
  by_cases h : i < 2 * n
  · rw [List.getElem?_append_left (by rw [flat_length]; omega), flat_get, flat_get, if_pos h, if_pos (show i < 2 * (n + m) by omega)]
    have : i / 2 < n := by omega
    simp only [this, if_true]
  · rw [List.getElem?_append_right (by rw [flat_length]; omega), flat_length, flat_get, flat_get]
    by_cases h2 : i - n * 2 < 2 * m
    · rw [if_pos h2, if_pos (show i < 2 * (n + m) by omega), show (i - n * 2) % 2 = i % 2 by omega, show (i - n * 2) / 2 = i / 2 - n by omega]
      have : ¬ i / 2 < n := by omega
      simp only [this, if_false]
    · rw [if_neg h2, if_neg (show ¬ i < 2 * (n + m) by omega)]
theorem flat_zero (f : Nat → Int × Int) : flat 0 f = [] := List.eq_nil_of_length_eq_zero (by rw [flat_length])
theorem flat_one (a b : Int) : flat 1 (fun _ => (a, b)) = [.int .i64 a, .int .i64 b] := by rw [flat_cons, flat_zero]
theorem flat_list : ∀ (l : List (Int × Int)), l.flatMap (fun x => [Value.int .i64 x.1, .int .i64 x.2]) = flat l.length (fun k => l.getD k (0, 0))
  | [] => by rw [List.length_nil, flat_zero]; rfl
  | x :: r => by
    rw [List.flatMap_cons, List.length_cons, flat_cons, flat_list r]; rfl
theorem spArr_list (l : List (Int × Int)) : (l.flatMap (fun x => [Value.int .i64 x.1, .int .i64 x.2])).toArray = spArr l.length (fun k => l.getD k (0, 0)) := by
  rw [flat_list]; unfold flat; simp
/-- A list of one's own: nothing, or a block. -/
def SpL (w : World) (v : Value) (n : Nat) (f : Nat → Int × Int) : Prop := w.ownsRow 0 41 2 v n (flat n f)
theorem SpansAt.own {w : World} {g n : Nat} {f : Nat → Int × Int} (h : SpansAt w g n f) (hn : n ≤ 1000) : SpL w (spansV g n) n f :=
  ⟨flat_length n f, Or.inr ⟨g, n, spArr n f, rfl, Nat.zero_le _, h, Nat.le_refl _, by show n ≤ maxLen; unfold maxLen; omega, by rw [spArr_size]; omega, List.take_of_length_le (by rw [Array.length_toList, spArr_size]; omega)⟩⟩
theorem SpL.nil (w : World) (f : Nat → Int × Int) : SpL w (.slice none 0 0) 0 f := ⟨flat_length 0 f, Or.inl ⟨rfl, rfl⟩⟩
theorem SpL.form {w : World} {v : Value} {n : Nat} {f : Nat → Int × Int} (h : SpL w v n f) : (v = .slice none 0 0 ∧ n = 0) ∨ ∃ g cap, v = .slice (some ⟨g, 0, none⟩) n cap ∧ g < w.heap.size ∧ (∀ k, k < n → w.cell? ⟨g, k * 2, none⟩ = some (.int .i64 (f k).1)) ∧ (∀ k, k < n → w.cell? ⟨g, k * 2 + 1, none⟩ = some (.int .i64 (f k).2)) := by
  rcases h.2 with q | ⟨g, cap, cur, h1, _, h2, h3, h4, h5, h6⟩
  · exact Or.inl q
  · right
    have key : ∀ i, i < n * 2 → cur[i]? = (flat n f)[i]? := fun i hi => by
      rw [← h6, List.getElem?_take_of_lt hi, Array.getElem?_toList]
    refine ⟨g, cap, h1, lt_of_heap h2, fun k hk => ?_, fun k hk => ?_⟩
    · have e := key (k * 2) (by omega)
      rw [flat_get, if_pos (by omega), if_pos (by omega), show k * 2 / 2 = k by omega] at e
      simp [World.cell?, h2, e]
    · have e := key (k * 2 + 1) (by omega)
      rw [flat_get, if_pos (by omega), if_neg (by omega), show (k * 2 + 1) / 2 = k by omega] at e
      simp [World.cell?, h2, e]
theorem SpL.upd {w w' : World} {v : Value} {n : Nat} {f : Nat → Int × Int} (h : SpL w v n f) {l : List Nat} (u : Upd l w w') (hl : ∀ g, v.ownBlock = some g → g ∉ l) : SpL w' v n f :=
  ownsRow_same h (fun g hg hlt => u.block g hlt (hl g hg))
theorem SpL.congr {w : World} {v : Value} {n : Nat} {f g : Nat → Int × Int} (h : SpL w v n f) (k : ∀ c, c < n → f c = g c) : SpL w v n g := by
  unfold SpL at *; rw [← flat_congr k]; exact h

theorem eqSpan (a b c d : Int) (w : World) : (Op.equalIn 10000 41 (.agg #[.int .i64 a, .int .i64 b]) (.agg #[.int .i64 c, .int .i64 d])).run Try.prog w = .ok (decide ((a, b) = (c, d))) w := by
  have hS : Try.prog.underlying 41 = some (.struct (Try.prog.fieldsOf 41)) := by kernel_rfl
  have hp : Try.prog.stoodInHeld 41 = false := by kernel_rfl
  have u2 := Try.underlying3
  rw [show 10000 = 9999 + 1 from rfl, run_equalIn_agg w 9999 41 _ _ hS hp]
  simp only [Program.fieldsOf, Try.underlying41]
  go_simp
  try simp only [Result.andThen]
  by_cases h1 : a = c <;> by_cases h2 : b = d <;> simp [h1, h2]
theorem neqSpan (a b c d : Int) (w : World) : (binOp .neq 41 (.agg #[.int .i64 a, .int .i64 b]) (.agg #[.int .i64 c, .int .i64 d])).run Try.prog w = .ok (.bool (!decide ((a, b) = (c, d)))) w := by
  rw [run_neq_struct, eqSpan]; rfl
theorem eqlSpan (a b c d : Int) (w : World) : (binOp .eql 41 (.agg #[.int .i64 a, .int .i64 b]) (.agg #[.int .i64 c, .int .i64 d])).run Try.prog w = .ok (.bool (decide ((a, b) = (c, d)))) w := by
  rw [run_eql_struct, eqSpan]; rfl
/-- The same spans? -/
def sameB (n : Nat) (f : Nat → Int × Int) (m : Nat) (g : Nat → Int × Int) : Bool := n == m && (List.range n).all fun k => f k == g k
theorem sameB_iff (n : Nat) (f : Nat → Int × Int) (m : Nat) (g : Nat → Int × Int) : sameB n f m g = true ↔ n = m ∧ ∀ k, k < n → f k = g k := by
  unfold sameB; simp
theorem drewN2 (w : World) (a b : Nat) : (w.drewN a).drewN b = w.drewN (a + b) := by cases w; simp [World.drewN, Nat.add_assoc]
structure SmInv (w : World) (n : Nat) (f g : Nat → Int × Int) (gn : Nat) (v : Value) (wr : World) : Prop where
  st : ∃ c : Nat, v = .int .i64 c ∧ c + gn = n ∧ (∀ k, k < c → f k = g k) ∧ ∃ q, wr = w.drewN q
set_option maxHeartbeats 800000 in
theorem same_any (va vb : Value) (n m : Nat) (f g : Nat → Int × Int) (w : World) (ha : SpL w va n f) (hb : SpL w vb m g) (hn : n ≤ 1000) (hm : m ≤ 1000) :
    Calls Try.prog 19 #[va, vb] w fun e w' => e = .returned (.bool (sameB n f m g)) ∧ ∃ q, w' = w.drewN q := by
  have key : ∀ (pa pb : Option Addr) (ca cb : Nat), va = .slice pa n ca → vb = .slice pb m cb → (n ≠ m) → Calls Try.prog 19 #[va, vb] w fun e w' => e = .returned (.bool (sameB n f m g)) ∧ ∃ q, w' = w.drewN q := by
    intro pa pb ca cb e1 e2 hne
    subst e1 e2
    have HR : Hid (sameB n f m g = false) := by
      show _ = _
      cases hs : sameB n f m g with
      | false => rfl
      | true => exact absurd ((sameB_iff _ _ _ _).mp hs).1 hne
    have hne' : ¬ (n : Int) = m := by omega
    clear ha hb
    go_enter Try.func19, Try.ntmps19
    go_wp2_with fail
    go_ret
    exact ⟨ret_bool HR.out.symm, 0, rfl⟩
  by_cases hnm : n = m
  · subst hnm
    by_cases h0 : n = 0
    · subst h0
      obtain ⟨pa, ca, e1⟩ : ∃ pa ca, va = .slice pa 0 ca := by
        rcases ha.form with ⟨h, _⟩ | ⟨x, c, h, _⟩
        · exact ⟨none, 0, h⟩
        · exact ⟨_, c, h⟩
      obtain ⟨pb, cb, e2⟩ : ∃ pb cb, vb = .slice pb 0 cb := by
        rcases hb.form with ⟨h, _⟩ | ⟨x, c, h, _⟩
        · exact ⟨none, 0, h⟩
        · exact ⟨_, c, h⟩
      subst e1 e2
      clear ha hb key
      go_enter Try.func19, Try.ntmps19
      go_wp2_with fail
      refine wp_loop_rounds 1 ?_
      rw [rounds_succ]
      go_wp2_with fail
      go_ret
      exact ⟨ret_bool (by simp [sameB]), 0, rfl⟩
    · rcases ha.form with ⟨_, h⟩ | ⟨x, ca, e1, hx, a0, a1⟩
      · omega
      rcases hb.form with ⟨_, h⟩ | ⟨y, cb, e2, hy, b0, b1⟩
      · omega
      subst e1 e2
      clear ha hb key
      have HA0 : Hid (∀ k, k < n → w.cell? ⟨x, k * 2, none⟩ = some (.int .i64 (f k).1)) := a0
      have HA1 : Hid (∀ k, k < n → w.cell? ⟨x, k * 2 + 1, none⟩ = some (.int .i64 (f k).2)) := a1
      have HB0 : Hid (∀ k, k < n → w.cell? ⟨y, k * 2, none⟩ = some (.int .i64 (g k).1)) := b0
      have HB1 : Hid (∀ k, k < n → w.cell? ⟨y, k * 2 + 1, none⟩ = some (.int .i64 (g k).2)) := b1
      clear a0 a1 b0 b1
      go_enter Try.func19, Try.ntmps19
      go_wp2_with fail
      go_loopg [5] n (fun gn v wr => SmInv w n f g gn v wr)
      case atStart => exact ⟨0, rfl, by omega, by omega, 0, rfl⟩
      case round =>
        obtain ⟨c, rfl, hc, hcs, q, rfl⟩ := hrel.st
        have HC : Hid (∀ k, k < c → f k = g k) := hcs
        clear hcs
        by_cases hlt : c < n
        · have hlt' : (c : Int) < n := by omega
          have r0 := HA0.out c hlt
          have r1 := HA1.out c hlt
          have r2 := HB0.out c hlt
          have r3 := HB1.out c hlt
          have ne : ∀ w', (binOp .neq 41 (.agg #[.int .i64 (f c).1, .int .i64 (f c).2]) (.agg #[.int .i64 (g c).1, .int .i64 (g c).2])).run Try.prog w' = .ok (.bool (!decide (f c = g c))) w' := fun w' => neqSpan _ _ _ _ w'
          go_wp2_with fail
          go_quiet (fail)
          obtain ⟨gm, hgm⟩ : ∃ k, gk = k + 1 := ⟨gk - 1, by omega⟩
          by_cases heq : f c = g c
          · have hd : (!decide (f c = g c)) = false := by simp [heq]
            have RL : Hid (SmInv w n f g gm (.int .i64 ((c + 1 : Nat) : Int)) (w.drewN (q + nq))) := ⟨c + 1, rfl, by omega, fun k hk => by
              rcases (by omega : k = c ∨ k < c) with r | r
              · rw [r]; exact heq
              · exact HC.out k r, q + nq, rfl⟩
            rw [hd]
            clear hd heq ne
            go_wp2_with fail
            go_roundg gm
            case measure => omega
            case rel => exact RL.out
          · have hd : (!decide (f c = g c)) = true := by simp [heq]
            have HR : Hid (sameB n f n g = false) := by
              show _ = _
              cases hs : sameB n f n g with
              | false => rfl
              | true => exact absurd (((sameB_iff _ _ _ _).mp hs).2 c hlt) heq
            rw [hd]
            clear hd heq ne
            go_wp2_with fail
            go_ret
            exact ⟨ret_bool HR.out.symm, q + nq, drewN2 _ _ _⟩
        · have hlt' : ¬ (c : Int) < n := by omega
          have HR : Hid (sameB n f n g = true) := (sameB_iff _ _ _ _).mpr ⟨rfl, fun k hk => HC.out k (by omega)⟩
          go_wp2_with fail
          go_ret
          exact ⟨ret_bool HR.out.symm, q, rfl⟩
  · obtain ⟨pa, ca, e1⟩ : ∃ pa ca, va = .slice pa n ca := by
      rcases ha.form with ⟨h, h'⟩ | ⟨x, c, h, _⟩
      · exact ⟨none, 0, by rw [h, h']⟩
      · exact ⟨_, c, h⟩
    obtain ⟨pb, cb, e2⟩ : ∃ pb cb, vb = .slice pb m cb := by
      rcases hb.form with ⟨h, h'⟩ | ⟨x, c, h, _⟩
      · exact ⟨none, 0, by rw [h, h']⟩
      · exact ⟨_, c, h⟩
    exact key pa pb ca cb e1 e2 hnm
end Go.Proofs.Ytcpfpnjkfahjcaa

set_option linter.unusedSimpArgs false
set_option linter.unusedVariables false
namespace Go.Proofs.Ytcpfpnjkfahjcaa
open Go.RowKit

/-- At most so many bytes of a text. -/
def cutS (s : ByteArray) (n : Nat) : ByteArray := s.extract 0 (min n s.size)
theorem cutS_size (s : ByteArray) (n : Nat) : (cutS s n).size = min n s.size := by unfold cutS; rw [ByteArray.size_extract]; omega
set_option maxHeartbeats 800000 in
theorem short_any (s : ByteArray) (n : Nat) (w : World) (hn : n ≤ 1000) : Calls Try.prog 12 #[.string s, .int .i64 n] w fun e w' => e = .returned (.string (cutS s n)) ∧ w' = w := by
  by_cases h : n < s.size
  · have h' : (n : Int) < s.size := by omega
    have HC : Hid (cutS s n = s.extract 0 n) := by show _ = _; unfold cutS; rw [show min n s.size = n by omega]
    go_enter Try.func12, Try.ntmps12
    go_wp2_with fail
    go_ret
    exact ⟨by rw [HC.out]; rfl, rfl⟩
  · have h' : ¬ (n : Int) < s.size := by omega
    have HC : Hid (cutS s n = s) := by
      show _ = _; unfold cutS; rw [show min n s.size = s.size by omega]; exact ByteArray.extract_zero_size
    go_enter Try.func12, Try.ntmps12
    go_wp2_with fail
    go_ret
    exact ⟨by rw [HC.out]; rfl, rfl⟩

/-- What a pattern says of a text, as the keeps ask it. -/
def OfOut (n : Nat) (r : Option (Nat → Int × Int)) (w : World) (e : Ending) (w' : World) : Prop :=
  Upd [] w w' ∧ match r with
  | none => e = .returned (.tuple #[.slice none 0 0, .bool true])
  | some f => ∃ g, w.heap.size ≤ g ∧ e = .returned (.tuple #[spansV g n, .bool true]) ∧ SpansAt w' g n f
theorem OfOut.mk_no {n : Nat} {r : Option (Nat → Int × Int)} {w w' : World} {e : Ending} (h : r = none) (u : Upd [] w w') (he : e = .returned (.tuple #[.slice none 0 0, .bool true])) : OfOut n r w e w' := by
  subst h; exact ⟨u, he⟩
theorem OfOut.mk_yes {n : Nat} {r : Option (Nat → Int × Int)} {w w' : World} {e : Ending} {f : Nat → Int × Int} (h : r = some f) (u : Upd [] w w') (k : ∃ g, w.heap.size ≤ g ∧ e = .returned (.tuple #[spansV g n, .bool true]) ∧ SpansAt w' g n f) : OfOut n r w e w' := by
  subst h; exact ⟨u, k⟩
theorem groups_any (p : Nat) (u : Tr) (n : Nat) (w : World) (h : PatAt w p u n) : Calls Try.prog 15 #[.pointer (some ⟨p, 0, none⟩)] w fun e w' => e = .returned (.tuple #[.int .i64 n, .int .i64 0]) ∧ w' = w := by
  obtain ⟨_, root, S, h1, _⟩ := h
  exact sGroups_any p root n w h1
set_option maxHeartbeats 1600000 in
theorem of_any (p : Nat) (u : Tr) (n : Nat) (t : ByteArray) (w : World) (ht : t.size ≤ 100) (h : PatAt w p u n) : Calls Try.prog 14 #[ptr p, .string t] w (OfOut (n + 1) (wholeS u t) w) := by
  have H : Hid (PatAt w p u n) := h
  have hn := h.1
  clear h
  unfold ptr
  go_enter Try.func14, Try.ntmps14
  go_wp2_with fail
  refine (groups_any p u n _ H.out).mono ?_
  rintro e w1 ⟨rfl, hw1⟩
  rw [hw1]
  clear hw1 w1
  go_wp2_with fail
  refine (sMatch_any p u n t _ ht H.out).mono ?_
  rintro e w1 ⟨u1, h1⟩
  revert h1
  cases hr : wholeS u t with
  | none =>
    rintro rfl
    have HU : Hid (Upd [] w w1) := u1
    have HR : Hid (wholeS u t = none) := hr
    clear u1 hr
    go_wp2_with fail
    go_ret2
    exact OfOut.mk_no HR.out HU.out rfl
  | some f =>
    rintro ⟨g, hg, rfl, hs⟩
    have HU : Hid (Upd [] w w1) := u1
    have HR : Hid (wholeS u t = some f) := hr
    have HS : Hid (SpansAt w1 g (n + 1) f) := hs
    clear u1 hr hs
    unfold spansV
    go_wp2_with fail
    go_ret2
    exact OfOut.mk_yes HR.out HU.out ⟨g, hg, rfl, HS.out⟩
theorem sMatch_no (p : Nat) (u : Tr) (n : Nat) (t : ByteArray) (w : World) (ht : t.size ≤ 100) (h : PatAt w p u n) (hr : wholeS u t = none) : Calls Try.prog 30 #[ptr p, .string t] w fun e w' => e = .returned (.tuple #[.slice none 0 0, .int .i64 0]) ∧ Upd [] w w' := by
  refine (sMatch_any p u n t w ht h).mono ?_
  rw [hr]
  rintro e w' ⟨q, h⟩; exact ⟨h, q⟩
theorem sMatch_yes (p : Nat) (u : Tr) (n : Nat) (t : ByteArray) (w : World) (ht : t.size ≤ 100) (h : PatAt w p u n) {f : Nat → Int × Int} (hr : wholeS u t = some f) : Calls Try.prog 30 #[ptr p, .string t] w fun e w' => ∃ g, w.heap.size ≤ g ∧ e = .returned (.tuple #[spansV g (n + 1), .int .i64 0]) ∧ SpansAt w' g (n + 1) f ∧ Upd [] w w' := by
  refine (sMatch_any p u n t w ht h).mono ?_
  rw [hr]
  rintro e w' ⟨q, g, h1, h2, h3⟩; exact ⟨g, h1, h2, h3, q⟩
theorem of_no (p : Nat) (u : Tr) (n : Nat) (t : ByteArray) (w : World) (ht : t.size ≤ 100) (h : PatAt w p u n) (hr : wholeS u t = none) : Calls Try.prog 14 #[ptr p, .string t] w fun e w' => e = .returned (.tuple #[.slice none 0 0, .bool true]) ∧ Upd [] w w' := by
  refine (of_any p u n t w ht h).mono ?_
  rw [hr]
  rintro e w' ⟨q, h⟩; exact ⟨h, q⟩
theorem of_yes (p : Nat) (u : Tr) (n : Nat) (t : ByteArray) (w : World) (ht : t.size ≤ 100) (h : PatAt w p u n) {f : Nat → Int × Int} (hr : wholeS u t = some f) : Calls Try.prog 14 #[ptr p, .string t] w fun e w' => ∃ g, w.heap.size ≤ g ∧ e = .returned (.tuple #[spansV g (n + 1), .bool true]) ∧ SpansAt w' g (n + 1) f ∧ Upd [] w w' := by
  refine (of_any p u n t w ht h).mono ?_
  rw [hr]
  rintro e w' ⟨q, g, h1, h2, h3⟩; exact ⟨g, h1, h2, h3, q⟩
theorem sLongest_no (p : Nat) (u : Tr) (n : Nat) (t : ByteArray) (w : World) (ht : t.size ≤ 100) (h : PatAt w p u n) (hr : longS u t = none) : Calls Try.prog 20 #[ptr p, .string t] w fun e w' => e = .returned (.tuple #[.int .i64 (-1), .slice none 0 0, .int .i64 0]) ∧ Upd [] w w' := by
  refine (sLongest_any p u n t w ht h).mono ?_
  rw [hr]
  rintro e w' ⟨q, h⟩; exact ⟨h, q⟩
theorem sLongest_yes (p : Nat) (u : Tr) (n : Nat) (t : ByteArray) (w : World) (ht : t.size ≤ 100) (h : PatAt w p u n) {k : Nat} (hr : longS u t = some k) : Calls Try.prog 20 #[ptr p, .string t] w fun e w' => ∃ g, w.heap.size ≤ g ∧ e = .returned (.tuple #[.int .i64 k, spansV g (n + 1), .int .i64 0]) ∧ SpansAt w' g (n + 1) (Sp.spansOf ((Sp.sem t u).g 0 k) k) ∧ Upd [] w w' := by
  refine (sLongest_any p u n t w ht h).mono ?_
  rw [hr]
  rintro e w' ⟨q, g, h1, h2, h3⟩; exact ⟨g, h1, h2, h3, q⟩
/-- Compile of a text of which the reading is known. -/
theorem comp_yes (s : ByteArray) (t : Tr) (n : Int) (w : World) (hr : Sp.read s = .ok (t, n)) : Calls Try.prog 11 #[.string s] w fun e w' => ∃ p, e = .returned (.tuple #[.pointer (some ⟨p, 0, none⟩), .int .i64 0, .int .i64 0]) ∧ w.heap.size ≤ p ∧ PatAt w' p t n.toNat ∧ Upd [] w w' := by
  refine (comp_any s w).mono ?_
  unfold CompOut
  rw [hr]
  rintro e w' ⟨q, p, h1, h2, h3⟩; exact ⟨p, h1, h2, h3, q⟩
theorem comp_no (s : ByteArray) (e1 a1 : Int) (w : World) (hr : Sp.read s = .error (e1, a1)) : Calls Try.prog 11 #[.string s] w fun e w' => e = .returned (.tuple #[.pointer none, .int .i64 e1, .int .i64 a1]) ∧ Upd [] w w' := by
  refine (comp_any s w).mono ?_
  unfold CompOut
  rw [hr]
  rintro e w' ⟨q, h⟩; exact ⟨h, q⟩
end Go.Proofs.Ytcpfpnjkfahjcaa

set_option linter.unusedSimpArgs false
set_option linter.unusedVariables false
namespace Go.Proofs.Ytcpfpnjkfahjcaa
open Go.RowKit

/-- The pattern that all keeps begin with: ((a)|b)* -/
def begunP : ByteArray := ⟨#[40, 40, 97, 41, 124, 98, 41, 42]⟩
def begunT : ByteArray := ⟨#[97, 98]⟩
def begunU : ByteArray := ⟨#[97, 99]⟩
def byteL (b : Nat) : Lab := { Sp.blank with kind := 0, byte := b, set := fun c => c == b }
def groupL (k : Nat) (m n : Int) : Lab := { Sp.blank with kind := 3, told := true, num := k, min := m, max := n }
def begunTree : Tr := Sp.choiceT [Sp.rowT [⟨groupL 1 0 (-1), [Sp.choiceT [Sp.rowT [⟨groupL 2 (-1) 0, [Sp.choiceT [Sp.rowT [⟨byteL 97, []⟩]]]⟩], Sp.rowT [⟨byteL 98, []⟩]]]⟩]]
theorem begun_choice : Sp.choice begunP 9 ⟨0, 0⟩ = .ok (begunTree, ⟨8, 2⟩) := by kernel_rfl
theorem begun_size : Sp.size begunTree = 2 := by
  unfold begunTree Sp.choiceT Sp.rowT Sp.size
  simp only [Sp.sizes]
  kernel_rfl
theorem begun_read : Sp.read begunP = .ok (begunTree, 2) := by
  unfold Sp.read
  rw [if_neg (by decide), begun_choice]
  simp only
  rw [if_neg (by decide), begun_size, if_neg (by decide)]
theorem begun_yes : (Sp.sem begunT begunTree).m 0 2 = true ∧ (Sp.sem begunT begunTree).g 0 2 = [(1, 0, 1), (2, 0, 1), (1, 1, 2)] := by
  unfold begunTree Sp.choiceT Sp.rowT Sp.sem
  simp only [Sp.sems]
  exact ⟨by kernel_rfl, by kernel_rfl⟩
theorem begun_no : (Sp.sem begunU begunTree).m 0 2 = false := by
  unfold begunTree Sp.choiceT Sp.rowT Sp.sem
  simp only [Sp.sems]
  kernel_rfl
def begunF : Nat → Int × Int := Sp.spansOf [(1, 0, 1), (2, 0, 1), (1, 1, 2)] 2
theorem begun_whole : wholeS begunTree begunT = some begunF := by
  unfold wholeS
  have e : begunT.size = 2 := rfl
  rw [e, begun_yes.1, begun_yes.2]; rfl
theorem begun_none : wholeS begunTree begunU = none := by
  unfold wholeS
  have e : begunU.size = 2 := rfl
  rw [e, begun_no]; rfl
theorem begunF_is : begunF 0 = (0, 2) ∧ begunF 1 = (1, 2) ∧ begunF 2 = (0, 1) := ⟨rfl, rfl, rfl⟩
set_option maxHeartbeats 1600000 in
theorem begun_any (w : World) : Calls Try.prog 10 #[] w fun e w' => e = .returned (.bool true) ∧ Upd [] w w' := by
  go_enter Try.func10, Try.ntmps10
  go_wp2_with fail
  refine (comp_yes begunP begunTree 2 _ begun_read).mono ?_
  rintro e w1 ⟨p, rfl, hp, h1, u1⟩
  have U1 : Hid (Upd [] w w1) := u1
  have P1 : Hid (PatAt w1 p begunTree 2) := h1
  clear u1 h1
  go_wp2_with fail
  refine (sMatch_yes p begunTree 2 begunT _ (by decide) P1.out begun_whole).mono ?_
  rintro e w2 ⟨g, hg, rfl, s2, u2⟩
  have U2 : Hid (Upd [] w w2) := U1.out.trans u2
  have P2 : Hid (PatAt w2 p begunTree 2) := P1.out.upd u2
  have S2 : Hid (SpansAt w2 g 3 begunF) := s2
  clear u2 s2
  unfold spansV
  go_wp2_with fail
  refine (sMatch_no p begunTree 2 begunU _ (by decide) P2.out begun_none).mono ?_
  rintro e w3 ⟨rfl, u3⟩
  have U3 : Hid (Upd [] w w3) := U2.out.trans u3
  have P3 : Hid (PatAt w3 p begunTree 2) := P2.out.upd u3
  have S3 : Hid (SpansAt w3 g 3 begunF) := (u3.block g (lt_of_heap S2.out) (by simp)).trans S2.out
  clear u3
  go_wp2_with fail
  refine (groups_any p begunTree 2 _ P3.out).mono ?_
  rintro e w4 ⟨rfl, hw4⟩
  rw [hw4]
  clear hw4 w4
  have LT : Hid (SpansAt (w3.alloc (.cells #[.int .i64 0, .int .i64 2, .int .i64 1, .int .i64 2, .int .i64 0, .int .i64 1] 41)) w3.heap.size 3 (fun k => [((0 : Int), (2 : Int)), (1, 2), (0, 1)].getD k (0, 0))) := by
    have e := spArr_list [(0, 2), (1, 2), (0, 1)]
    show _ = _
    rw [show spArr 3 (fun k => [((0 : Int), (2 : Int)), (1, 2), (0, 1)].getD k (0, 0)) = _ from e.symm]
    exact heap_new rfl
  have HS : Hid (sameB 3 begunF 3 (fun k => [((0 : Int), (2 : Int)), (1, 2), (0, 1)].getD k (0, 0)) = true) := by
    show _ = _
    kernel_rfl
  go_wp2_with fail
  refine (same_any _ _ 3 3 begunF _ _ (SpansAt.own (g := g) (n := 3) (by exact (Below.heap_alloc _ _ _ (lt_of_heap S3.out)).trans S3.out) (by omega)) (SpansAt.own LT.out (by omega)) (by omega) (by omega)).mono ?_
  rw [HS.out]
  rintro e w4 ⟨rfl, q, rfl⟩
  go_wp2_with fail
  go_ret
  exact ⟨rfl, U3.out.trans (by (repeat (first | exact Upd.refl _ _ | refine Upd.drewN ?_ | refine Upd.drew ?_ | refine Upd.setCell ?_ (by simp) _ | refine Upd.alloc ?_ _)))⟩
end Go.Proofs.Ytcpfpnjkfahjcaa
