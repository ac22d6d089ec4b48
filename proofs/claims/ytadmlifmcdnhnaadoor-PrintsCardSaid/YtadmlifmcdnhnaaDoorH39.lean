/- THE TEXT THAT BEARS THE THEOREM. For every string the law Prints answers true and leaves its argument as it was: what the program prints, compiles and counts is the document's own answer, error and place included. Conditions: none on the string; the three listed tables of the library are tied by the card. -/
import Derived.Test.YtadmlifmcdnhnaaDoorH38
import Derived.Test.YtadmlifmcdnhnaaDoorTie
import Derived.Test.YtadmlifmcdnhnaaDoorCards
import Derived.ProofKit
import Derived.LaidMore
import Derived.OpenShut
import Derived.Stop.Joined
import Derived.SevenTiedAt
/- An error has a number that is not 0: no program is named here. -/
set_option linter.unusedSimpArgs false
set_option linter.unusedVariables false
namespace Go.Proofs.YtadmlifmcdnhnaaDoor
namespace Sp

theorem number_code {m : Int} {s : ByteArray} {i : Nat} {e a : Int} (h : number m s i = .error (e, a)) : e ≠ 0 := by
  unfold number at h; split at h
  · split at h
    · cases h; decide
    · cases h
  · cases h; decide
theorem need_code {c : Int} {s : ByteArray} {i : Nat} {e a : Int} (h : need c s i = .error (e, a)) : e ≠ 0 := by
  unfold need at h; split at h
  · cases h
  · cases h; decide
theorem bounds_code {s : ByteArray} {i : Nat} {e a : Int} (h : bounds s i = .error (e, a)) : e ≠ 0 := by
  unfold bounds at h
  cases h1 : number 0 s i with
  | error f => rw [h1] at h; cases h; exact number_code h1
  | ok p =>
    obtain ⟨m, j⟩ := p
    rw [h1] at h; simp only at h
    split at h
    · split at h
      · cases h2 : number m s (j + 1) with
        | error f => rw [h2] at h; cases h; exact number_code h2
        | ok p =>
          obtain ⟨n, k⟩ := p
          rw [h2] at h; simp only at h
          cases h3 : need 125 s k with
          | error f => rw [h3] at h; cases h; exact need_code h3
          | ok l => rw [h3] at h; cases h
      · cases h3 : need 125 s (j + 1) with
        | error f => rw [h3] at h; cases h; exact need_code h3
        | ok l => rw [h3] at h; cases h
    · cases h3 : need 125 s j with
      | error f => rw [h3] at h; cases h; exact need_code h3
      | ok l => rw [h3] at h; cases h
theorem count_code {s : ByteArray} {i : Nat} {e a : Int} (h : count s i = .error (e, a)) : e ≠ 0 := by
  unfold count at h
  split at h
  · cases h
  · split at h
    · cases h
    · split at h
      · cases h
      · split at h
        · exact bounds_code h
        · cases h
theorem byteBut_code {l : Bool} {s : ByteArray} {i : Nat} {e a : Int} (h : byteBut l s i = .error (e, a)) : e ≠ 0 := by rw [byteBut_err h]; decide
theorem item_code {s : ByteArray} {i : Nat} {e a : Int} (h : item s i = .error (e, a)) : e ≠ 0 := by
  unfold item at h
  cases h1 : byteBut true s i with
  | error f => rw [h1] at h; cases h; exact byteBut_code h1
  | ok p =>
    obtain ⟨b, j⟩ := p
    rw [h1] at h; simp only at h
    split at h
    · cases h2 : byteBut true s (j + 1) with
      | error f => rw [h2] at h; cases h; exact byteBut_code h2
      | ok p =>
        obtain ⟨c, k⟩ := p
        rw [h2] at h; simp only at h
        split at h
        · cases h; decide
        · cases h
    · cases h
theorem items_code {s : ByteArray} : ∀ {n : Nat} {set : Nat → Bool} {i : Nat} {e a : Int}, items s n set i = .error (e, a) → e ≠ 0
  | 0, _, _, _, _, h => by cases h; decide
  | n + 1, set, i, e, a, h => by
    unfold items at h
    cases h1 : item s i with
    | error f => rw [h1] at h; cases h; exact item_code h1
    | ok p =>
      obtain ⟨b, c, j⟩ := p
      rw [h1] at h; simp only at h
      split at h
      · cases h
      · exact items_code h
theorem list_code {s : ByteArray} {i : Nat} {e a : Int} (h : list s i = .error (e, a)) : e ≠ 0 := by
  unfold list at h
  simp only at h
  cases h1 : items s (s.size + 1) (fun _ => false) (if isAt s i 94 = true then i + 1 else i) with
  | error f => simp only [h1] at h; cases h; exact items_code h1
  | ok p => obtain ⟨set, k⟩ := p; simp only [h1] at h; cases h
theorem head_code {s : ByteArray} {d : Nat} {x : At} {e a : Int} (h : head s d x = .error (e, a)) : e ≠ 0 := by
  unfold head at h
  split at h
  · cases h; decide
  · split at h
    · cases h1 : need 58 s (x.i + 2) with
      | error f => rw [h1] at h; cases h; exact need_code h1
      | ok j => rw [h1] at h; cases h
    · split at h
      · cases h; decide
      · cases h
def CodeF (f : At → Res (Tr × At)) : Prop := ∀ x e a, f x = .error (e, a) → e ≠ 0
theorem group_code {sub : At → Res (Tr × At)} (hs : CodeF sub) {s : ByteArray} {d : Nat} {x : At} {e a : Int} (h : group sub s d x = .error (e, a)) : e ≠ 0 := by
  unfold group at h
  cases h1 : head s d x with
  | error f => rw [h1] at h; cases h; exact head_code h1
  | ok p =>
    obtain ⟨k, y⟩ := p
    rw [h1] at h; simp only at h
    cases h2 : sub y with
    | error f => rw [h2] at h; cases h; exact hs _ _ _ h2
    | ok p =>
      obtain ⟨t, z⟩ := p
      rw [h2] at h; simp only at h
      cases h3 : need 41 s z.i with
      | error f => rw [h3] at h; cases h; exact need_code h3
      | ok j => rw [h3] at h; cases h
theorem atom_code {sub : At → Res (Tr × At)} (hs : CodeF sub) {s : ByteArray} {d : Nat} {x : At} {e a : Int} (h : atom sub s d x = .error (e, a)) : e ≠ 0 := by
  unfold atom at h
  split at h
  · exact group_code hs h
  · split at h
    · cases h1 : list s (x.i + 1) with
      | error f => rw [h1] at h; cases h; exact list_code h1
      | ok p => obtain ⟨t, j⟩ := p; rw [h1] at h; cases h
    · split at h
      · cases h
      · cases h1 : byteBut false s x.i with
        | error f => rw [h1] at h; cases h; exact byteBut_code h1
        | ok p => obtain ⟨b, j⟩ := p; rw [h1] at h; cases h
theorem part_code {sub : At → Res (Tr × At)} (hs : CodeF sub) {s : ByteArray} {d : Nat} {x : At} {e a : Int} (h : part sub s d x = .error (e, a)) : e ≠ 0 := by
  unfold part at h
  cases h1 : atom sub s d x with
  | error f => rw [h1] at h; cases h; exact atom_code hs h1
  | ok p =>
    obtain ⟨t, y⟩ := p
    rw [h1] at h; simp only at h
    cases h2 : count s y.i with
    | error f => rw [h2] at h; cases h; exact count_code h2
    | ok p => obtain ⟨m, n, j⟩ := p; rw [h2] at h; cases h
theorem parts_code {sub : At → Res (Tr × At)} (hs : CodeF sub) {s : ByteArray} {d : Nat} : ∀ {n : Nat} {l : List Tr} {x : At} {e a : Int}, parts sub s d n l x = .error (e, a) → e ≠ 0
  | 0, _, _, _, _, h => by cases h; decide
  | n + 1, l, x, e, a, h => by
    unfold parts at h
    split at h
    · cases h
    · cases h1 : part sub s d x with
      | error f => rw [h1] at h; cases h; exact part_code hs h1
      | ok p => obtain ⟨t, y⟩ := p; rw [h1] at h; exact parts_code hs h
theorem row_code {sub : At → Res (Tr × At)} (hs : CodeF sub) {s : ByteArray} {d : Nat} : CodeF (row sub s d) := by
  intro x e a h
  unfold row at h
  cases h1 : parts sub s d (s.size + 1) [] x with
  | error f => rw [h1] at h; cases h; exact parts_code hs h1
  | ok p => obtain ⟨l, y⟩ := p; rw [h1] at h; cases h
theorem rows_code {sub : At → Res (Tr × At)} (hs : CodeF sub) {s : ByteArray} {d : Nat} : ∀ {n : Nat} {l : List Tr} {x : At} {e a : Int}, rows sub s d n l x = .error (e, a) → e ≠ 0
  | 0, _, _, _, _, h => by cases h; decide
  | n + 1, l, x, e, a, h => by
    unfold rows at h
    cases h1 : row sub s d x with
    | error f => rw [h1] at h; cases h; exact row_code hs _ _ _ h1
    | ok p =>
      obtain ⟨t, y⟩ := p
      rw [h1] at h; simp only at h
      split at h
      · exact rows_code hs h
      · cases h
theorem choice_code (s : ByteArray) : ∀ k, CodeF (choice s k)
  | 0 => by intro x e a h; cases h; decide
  | k + 1 => by
    intro x e a h
    unfold choice at h
    cases h1 : rows (choice s k) s (8 - k) (s.size + 1) [] x with
    | error f => rw [h1] at h; cases h; exact rows_code (choice_code s k) h1
    | ok p => obtain ⟨l, y⟩ := p; rw [h1] at h; cases h
theorem read_code {s : ByteArray} {e a : Int} (h : read s = .error (e, a)) : e ≠ 0 := by
  unfold read at h
  split at h
  · cases h; decide
  · cases h1 : choice s 9 ⟨0, 0⟩ with
    | error f => rw [h1] at h; cases h; exact choice_code s 9 _ _ _ h1
    | ok p =>
      obtain ⟨t, y⟩ := p
      rw [h1] at h; simp only at h
      split at h
      · cases h; decide
      · split at h
        · cases h; decide
        · cases h
end Sp
end Go.Proofs.YtadmlifmcdnhnaaDoor

set_option linter.unusedSimpArgs false
set_option linter.unusedVariables false
namespace Go.Proofs.YtadmlifmcdnhnaaDoor
open Go.RowKit

theorem Sp.read_made {s : ByteArray} {t : Tr} {n : Int} (h : Sp.read s = .ok (t, n)) : Sp.Made [t] := by
  unfold Sp.read at h
  split at h
  · cases h
  · rename_i hz
    cases h1 : Sp.choice s 9 ⟨0, 0⟩ with
    | error f => simp [h1] at h
    | ok v =>
      obtain ⟨t', y⟩ := v
      simp only [h1] at h
      split at h
      · cases h
      · split at h
        · cases h
        · cases h; exact Sp.choice_makes s (by omega) 9 _ _ _ h1 (by simp) (by simp) (by simp)

theorem BdAt.new {w : World} {b : Nat} {c : Array Value} (hc : c = #[.pointer none, .slice none 0 0]) (hb : b = w.heap.size) : BdAt (w.alloc (.cells c 69)) b [] := by
  subst hc hb
  exact Or.inl ⟨Nat.le_refl _, .slice none 0 0, by show (w.heap.push _)[w.heap.size]? = _; simp, World.ownsRow_nil _ _ _ _, by simp [Value.ownBlock]⟩
theorem Upd.of_below {w w' : World} (h : Below w.heap.size w w') : Upd [] w w' := ⟨h.os, h.tape, h.output, h.size, fun k hk _ => h.block k hk⟩

set_option maxHeartbeats 800000 in
theorem pPrint_any (p : Nat) (t : Tr) (S : Nat → Prop) (w : World) (hn : NodesAt w S [p] [t]) (hw : WriteC t) (hc : Sp.nodes [t] ≤ 1000) :
    Calls Tryd.prog 11 #[.pointer (some ⟨p, 0, none⟩)] w fun e w' => e = .returned (.string (str (Sp.text t))) ∧ Upd [] w w' := by
  have HN : Hid (NodesAt (w.alloc (.cells #[.pointer none, .slice none 0 0] 69)) (fun k => k < w.heap.size) [p] [t]) :=
    NodesAt.same _ _ (NodesAt.mono _ _ hn (fun k _ hk => hk)) (fun k hk _ => Below.heap_alloc _ _ _ hk)
  have HB : Hid (BdAt (w.alloc (.cells #[.pointer none, .slice none 0 0] 69)) w.heap.size []) := BdAt.new rfl rfl
  have HW : Hid (WriteC t) := hw
  clear hn hw
  go_enter Tryd.func11, Tryd.ntmps11
  go_wp2_with fail
  refine (HW.out p w.heap.size [] _ (by exact HB.out) (by simp; omega) (by exact HN.out)).mono ?_
  rintro e w1 ⟨rfl, hb1, hu1⟩
  have HB1 : Hid (BdAt w1 w.heap.size (Sp.text t)) := hb1
  have HU1 : Hid (Below w.heap.size w w1) := ((Below.refl w.heap.size w).alloc (Nat.le_refl _) _).trans hu1
  clear hb1 hu1
  go_wp2_with fail
  refine (bstr_any w.heap.size (Sp.text t) _ (by exact HB1.out)).mono ?_
  rintro e w2 ⟨rfl, hu2⟩
  go_wp2_with fail
  go_ret
  exact ⟨rfl, Upd.of_below (HU1.out.trans hu2)⟩

set_option maxHeartbeats 800000 in
theorem sPrint_any (s : ByteArray) (w : World) :
    Calls Tryd.prog 4 #[.string s] w (PrintOut s w) := by
  cases hr : Sp.read s with
  | error p =>
    obtain ⟨e1, a1⟩ := p
    have he : e1 ≠ 0 := Sp.read_code hr
    have hb : (e1 != 0) = true := by simpa using he
    have HR : Hid (Sp.read s = .error (e1, a1)) := hr
    have HP : Hid (printR s = ([], e1, a1)) := by show _ = _; unfold printR; rw [hr]
    clear hr he
    unfold PrintOut
    rw [HP.out]
    go_enter Tryd.func4, Tryd.ntmps4
    go_wp2_with fail
    refine (pRead_any s _).mono ?_
    rw [HR.out]
    rintro e w1 ⟨hu1, rfl⟩
    have HU1 : Hid (Upd [] w w1) := hu1
    clear hu1
    go_wp2_with fail
    go_quiet (fail)
    go_wp2_with fail
    go_ret3
    exact ⟨rfl, by refine HU1.out.trans ?_; (repeat (first | exact Upd.refl _ _ | refine Upd.drewN ?_ | refine Upd.drew ?_ | refine Upd.setCell ?_ (by simp) _ | refine Upd.alloc ?_ _))⟩
  | ok p =>
    obtain ⟨t, n⟩ := p
    have HR : Hid (Sp.read s = .ok (t, n)) := hr
    have HP : Hid (printR s = (Sp.text t, 0, 0)) := by show _ = _; unfold printR; rw [hr]
    have hm := Sp.read_made hr
    have HW : Hid (WriteC t) := write_all [t] hm.1 (Sp.read_nums hr) hm.2 0 t rfl (Sp.Made.lab hm).2.2
    have hc : Sp.nodes [t] ≤ 1000 := by have := Sp.read_nods hr; omega
    clear hr hm
    unfold PrintOut
    rw [HP.out]
    obtain ⟨tx, HTX⟩ : ∃ tx, Hid (tx = Sp.text t) := ⟨_, (rfl : Sp.text t = _)⟩
    rw [← HTX.out]
    go_enter Tryd.func4, Tryd.ntmps4
    go_wp2_with fail
    refine (pRead_any s _).mono ?_
    rw [HR.out]
    rintro e w1 ⟨hu1, p, rfl, hn1⟩
    have HU1 : Hid (Upd [] w w1) := hu1
    have HN1 : Hid (NodesAt w1 (fun k => k < w1.heap.size) [p] [t]) := NodesAt.mono _ _ hn1 (fun k _ hk => hk)
    clear hu1 hn1
    unfold ptr
    go_wp2_with fail
    refine (pPrint_any p t _ _ (by exact NodesAt.same _ _ HN1.out (fun k hk _ => Below.heap_alloc _ _ _ hk)) HW.out hc).mono ?_
    rw [← HTX.out]
    rintro e w2 ⟨rfl, hu2⟩
    have HU2 : Hid (Upd [] w w2) := (HU1.out.alloc _).trans hu2
    clear hu2
    go_wp2_with fail
    go_ret3
    exact ⟨rfl, HU2.out⟩

/-- The program's pattern: its tree's root; how many groups are told. -/
def PpAt (w : World) (p root : Nat) (n : Int) : Prop := w.heap[p]? = some (.cells #[ptr root, .int .i64 n] 50 (0, 0))
theorem PpAt.new {w : World} {p root : Nat} {n : Int} {c : Array Value} (hc : c = #[ptr root, .int .i64 n]) (hp : p = w.heap.size) : PpAt (w.alloc (.cells c 50)) p root n := by
  subst hc hp; show (w.heap.push _)[w.heap.size]? = _; simp
def PCompileOut (s : ByteArray) (w : World) (e : Ending) (w' : World) : Prop := Upd [] w w' ∧ match Sp.read s with
  | .ok (t, n) => ∃ p root, e = .returned (.tuple #[.pointer (some ⟨p, 0, none⟩), .int .i64 0, .int .i64 0]) ∧ w.heap.size ≤ p ∧ PpAt w' p root n ∧ NodesAt w' (fun k => w.heap.size ≤ k ∧ k < w'.heap.size ∧ k ≠ p) [root] [t]
  | .error (e1, a1) => e = .returned (.tuple #[.pointer none, .int .i64 e1, .int .i64 a1])

set_option maxHeartbeats 800000 in
theorem sCompile_any (s : ByteArray) (w : World) :
    Calls Tryd.prog 6 #[.string s] w (PCompileOut s w) := by
  cases hr : Sp.read s with
  | error p =>
    obtain ⟨e1, a1⟩ := p
    have he : e1 ≠ 0 := Sp.read_code hr
    have hb : (e1 != 0) = true := by simpa using he
    have HR : Hid (Sp.read s = .error (e1, a1)) := hr
    clear hr he
    unfold PCompileOut
    rw [HR.out]
    go_enter Tryd.func6, Tryd.ntmps6
    go_wp2_with fail
    refine (pRead_any s _).mono ?_
    rw [HR.out]
    rintro e w1 ⟨hu1, rfl⟩
    have HU1 : Hid (Upd [] w w1) := hu1
    clear hu1
    go_wp2_with fail
    go_quiet (fail)
    go_wp2_with fail
    go_ret3
    exact ⟨by refine HU1.out.trans ?_; (repeat (first | exact Upd.refl _ _ | refine Upd.drewN ?_ | refine Upd.drew ?_ | refine Upd.setCell ?_ (by simp) _ | refine Upd.alloc ?_ _)), rfl⟩
  | ok p =>
    obtain ⟨t, n⟩ := p
    have HR : Hid (Sp.read s = .ok (t, n)) := hr
    clear hr
    unfold PCompileOut
    rw [HR.out]
    go_enter Tryd.func6, Tryd.ntmps6
    go_wp2_with fail
    refine (pRead_any s _).mono ?_
    rw [HR.out]
    rintro e w1 ⟨hu1, p, rfl, hn1⟩
    have HU1 : Hid (Upd [] w w1) := hu1
    have HN1 : Hid (NodesAt w1 (fun k => w.heap.size ≤ k ∧ k < w1.heap.size) [p] [t]) := NodesAt.mono _ _ hn1 (fun k h1 hk => ⟨h1, hk⟩)
    have hsz := hu1.size
    clear hu1 hn1
    unfold ptr
    go_wp2_with fail
    go_ret3
    refine ⟨by refine HU1.out.trans ?_; (repeat (first | exact Upd.refl _ _ | refine Upd.drewN ?_ | refine Upd.drew ?_ | refine Upd.setCell ?_ (by simp) _ | refine Upd.alloc ?_ _)), _, p, rfl, ?_, PpAt.new rfl ?_, ?_⟩
    · omega
    · simp
    · refine NodesAt.mono _ _ (NodesAt.same _ _ HN1.out (fun k hk _ => ?_)) (fun k hk _ => ⟨hk.1, by simp; omega, by omega⟩)
      rw [Below.heap_alloc _ _ _ (by simp; omega), Below.heap_alloc _ _ _ (by omega)]

theorem sGroups_any (p root : Nat) (n : Int) (w : World) (h : PpAt w p root n) :
    Calls Tryd.prog 8 #[.pointer (some ⟨p, 0, none⟩)] w (fun e w' => e = .returned (.tuple #[.int .i64 n, .int .i64 0]) ∧ w' = w) := by
  have c1 : w.cell? ⟨p, 1, none⟩ = some (.int .i64 n) := by unfold PpAt at h; simp [World.cell?, h]
  clear h
  go_enter Tryd.func8, Tryd.ntmps8
  go_wp2_with fail
  go_ret2
  exact ⟨rfl, rfl⟩
theorem sGroups_nil (w : World) :
    Calls Tryd.prog 8 #[.pointer none] w (fun e w' => e = .returned (.tuple #[.int .i64 0, .int .i64 1]) ∧ w' = w) := by
  go_enter Tryd.func8, Tryd.ntmps8
  go_wp2_with fail
  go_ret2
  exact ⟨rfl, rfl⟩
end Go.Proofs.YtadmlifmcdnhnaaDoor

set_option linter.unusedSimpArgs false
set_option linter.unusedVariables false
namespace Go.Proofs.YtadmlifmcdnhnaaDoor
open Go.RowKit

def lit1 : ByteArray := ⟨#[91, 97, 45, 99, 98, 92, 45, 93, 123, 49, 44, 125, 124]⟩
def lit2 : ByteArray := ⟨#[97, 123, 50, 44, 49, 125]⟩
def lab1 : Lab := { Sp.blank with kind := 2, set := Sp.add (Sp.add (Sp.add (fun _ => false) 97 99) 98 98) 45 45, not := false, min := 1, max := -1 }
def tree1 : Tr := ⟨cLab, [⟨rLab, [⟨lab1, []⟩]⟩, ⟨rLab, []⟩]⟩
theorem choice1 : Sp.choice lit1 9 ⟨0, 0⟩ = .ok (tree1, ⟨13, 0⟩) := by kernel_rfl
theorem size1 : Sp.size tree1 = 1 := by
  unfold tree1 Sp.size
  simp only [Sp.sizes]
  kernel_rfl
theorem text1 : Sp.text tree1 = [91, 92, 45, 97, 45, 99, 93, 43, 124] := by
  unfold tree1 Sp.text Sp.bareT
  simp only [Sp.texts]
  kernel_rfl
theorem print1 : printR lit1 = ([91, 92, 45, 97, 45, 99, 93, 43, 124], 0, 0) := by
  unfold printR Sp.read
  rw [if_neg (by decide), choice1]
  simp only
  rw [if_neg (by decide), size1, if_neg (by decide)]
  simp only
  rw [text1]
theorem print2 : printR lit2 = ([], 4, 4) := by kernel_rfl
end Go.Proofs.YtadmlifmcdnhnaaDoor

set_option linter.unusedSimpArgs false
set_option linter.unusedVariables false
namespace Go.Proofs.YtadmlifmcdnhnaaDoor
open Go.RowKit

theorem refGroups_nil (w : World) :
    Calls Tryd.prog 9 #[.pointer none] w (fun e w' => e = .returned (.tuple #[.int .i64 0, .int .i64 1]) ∧ w' = w) := by
  go_enter Tryd.func9, Tryd.ntmps9
  go_wp2_with fail
  go_ret2
  exact ⟨rfl, rfl⟩
theorem PpAt.upd {w w' : World} {p root : Nat} {n : Int} (h : PpAt w p root n) (u : Upd [] w w') : PpAt w' p root n := by
  unfold PpAt at *; rw [u.block p (lt_of_heap h) (by simp)]; exact h

theorem str1 : ((str [91, 92, 45, 97, 45, 99, 93, 43, 124]).toList == [91, 92, 45, 97, 45, 99, 93, 43, 124]) = true := by kernel_rfl
theorem str2 : (str []).toList.isEmpty = true := by kernel_rfl

set_option maxHeartbeats 2000000 in
theorem prints_walk (s : ByteArray) (w : World) :
    Calls Tryd.prog 3 #[.string s] w fun e w' => e = .returned (.bool true) ∧ Upd [] w w' := by
  have k1 := str1
  have k2 := str2
  go_enter Tryd.func3, Tryd.ntmps3
  go_wp2_with fail
  refine (sPrint_any lit1 _).mono ?_
  rintro e w1 ⟨he, hu1⟩
  rw [he, print1]
  have HU1 : Hid (Upd [] w w1) := hu1
  clear hu1 he
  go_wp2_with fail
  refine (sPrint_any lit2 _).mono ?_
  rintro e w2 ⟨he, hu2⟩
  rw [he, print2]
  have HU2 : Hid (Upd [] w w2) := HU1.out.trans hu2
  clear hu2 he
  obtain ⟨X, HX⟩ : ∃ X, Hid (X = str (printR s).1) := ⟨_, (rfl : str (printR s).1 = _)⟩
  cases hr : Sp.read s with
  | error p =>
    obtain ⟨e1, a1⟩ := p
    have HR : Hid (Sp.read s = .error (e1, a1)) := hr
    have HP : Hid ((printR s).2.1 = e1 ∧ (printR s).2.2 = a1) := by unfold printR; rw [hr]; exact ⟨rfl, rfl⟩
    clear hr
    go_wp2_with fail
    clear k1 k2
    refine (sPrint_any s _).mono ?_
    unfold PrintOut
    rw [HP.out.1, HP.out.2, ← HX.out]
    rintro e w3 ⟨rfl, hu3⟩
    have HU3 : Hid (Upd [] w w3) := HU2.out.trans hu3
    clear hu3
    go_wp2_with fail
    refine (refPrint s _).mono ?_
    unfold PrintOut
    rw [HP.out.1, HP.out.2, ← HX.out]
    rintro e w4 ⟨rfl, hu4⟩
    have HU4 : Hid (Upd [] w w4) := HU3.out.trans hu4
    clear hu4
    go_wp2_with fail
    refine (sCompile_any s _).mono ?_
    unfold PCompileOut
    rw [HR.out]
    rintro e w5 ⟨hu5, rfl⟩
    have HU5 : Hid (Upd [] w w5) := HU4.out.trans hu5
    clear hu5
    go_wp2_with fail
    refine (refCompile s _).mono ?_
    unfold CompileOut
    rw [HR.out]
    rintro e w6 ⟨hu6, rfl⟩
    have HU6 : Hid (Upd [] w w6) := HU5.out.trans hu6
    clear hu6
    go_wp2_with fail
    refine (sGroups_nil _).mono ?_
    rintro e w7 ⟨rfl, hw7⟩
    rw [hw7]
    clear hw7 w7
    go_wp2_with fail
    refine (refGroups_nil _).mono ?_
    rintro e w7 ⟨rfl, hw7⟩
    rw [hw7]
    clear hw7 w7
    go_wp2_with fail
    go_ret
    exact ⟨rfl, HU6.out⟩
  | ok p =>
    obtain ⟨t, n⟩ := p
    have HR : Hid (Sp.read s = .ok (t, n)) := hr
    have HP : Hid ((printR s).2.1 = 0 ∧ (printR s).2.2 = 0) := by unfold printR; rw [hr]; exact ⟨rfl, rfl⟩
    have HT : Hid ((Sp.comp t ⟨[], 0⟩).1.told = n) := Sp.read_told hr
    clear hr
    go_wp2_with fail
    clear k1 k2
    refine (sPrint_any s _).mono ?_
    unfold PrintOut
    rw [HP.out.1, HP.out.2, ← HX.out]
    rintro e w3 ⟨rfl, hu3⟩
    have HU3 : Hid (Upd [] w w3) := HU2.out.trans hu3
    clear hu3
    go_wp2_with fail
    refine (refPrint s _).mono ?_
    unfold PrintOut
    rw [HP.out.1, HP.out.2, ← HX.out]
    rintro e w4 ⟨rfl, hu4⟩
    have HU4 : Hid (Upd [] w w4) := HU3.out.trans hu4
    clear hu4
    go_wp2_with fail
    refine (sCompile_any s _).mono ?_
    unfold PCompileOut
    rw [HR.out]
    rintro e w5 ⟨hu5, p, root, rfl, hp5, hpat, _⟩
    have HU5 : Hid (Upd [] w w5) := HU4.out.trans hu5
    have HPT : Hid (PpAt w5 p root n) := hpat
    clear hu5 hpat
    go_wp2_with fail
    refine (refCompile s _).mono ?_
    unfold CompileOut
    rw [HR.out]
    rintro e w6 ⟨hu6, q, rfl, hq6, hcp⟩
    have HU6 : Hid (Upd [] w w6) := HU5.out.trans hu6
    have HP6 : Hid (PpAt w6 p root n) := HPT.out.upd hu6
    have HC6 : Hid (CpAt w6 q (Sp.comp t ⟨[], 0⟩).1 (Sp.comp t ⟨[], 0⟩).2) := hcp
    clear hu6 hcp HPT
    go_wp2_with fail
    refine (sGroups_any p root n _ (by exact HP6.out)).mono ?_
    rintro e w7 ⟨rfl, hw7⟩
    rw [hw7]
    clear hw7 w7
    go_wp2_with fail
    refine (refGroups q _ _ _ (by exact HC6.out)).mono ?_
    rw [HT.out]
    rintro e w7 ⟨rfl, n7, hw7⟩
    rw [hw7]
    clear hw7 w7
    go_wp2_with fail
    go_ret
    exact ⟨rfl, HU6.out.drewN⟩
end Go.Proofs.YtadmlifmcdnhnaaDoor

/- For every string the law Prints answers true, and leaves its argument as it was: what the program prints, compiles and counts is what the document's own answer is. No condition on the string; the three listed tables of Go's library are tied by the card. -/
set_option linter.unusedSimpArgs false
set_option linter.unusedVariables false
namespace Go.Proofs.YtadmlifmcdnhnaaDoor
open Go.ChangeShapes Go.WideShapes Go.ChangeAt Go.WideMaps Go.WideElems Go.RowKit
open Go.ChangeMaps (open_string shut_string)

theorem own : ownKnob Tryd.prog.godebug = none := by kernel_rfl
theorem door_met (os : Os) (args : Array Value) : laidMetH Tryd.prog Rows.printsRow.laid ((World.doorLaid Tryd.prog 24 os).forCall (fun _ _ => 0) ⟨#[], args, []⟩).memory :=
  laidMetH_of_parts3 (fuel := 8) (laidMet_of_run' 8 (by kernel_rfl) (by kernel_rfl)) (by kernel_rfl) (by kernel_rfl)
theorem Below.of_upd {w w' : World} (h : Upd [] w w') : Below w.heap.size w w' := ⟨h.os, h.tape, h.output, h.size, fun k hk => h.block k hk (by simp)⟩

set_option maxRecDepth 100000 in
theorem lifted (os : Os) (started : os.Started) (H : Type) (enc : TypeId × Value → H) :
    ReturnsInHanded {} Tryd.checked os 3 .any (fun w args => (Rows.printsSpec.pre enc Tryd.prog Tryd.f3 [] false w args ∧ laidMetH Tryd.prog Rows.printsRow.laid w) ∧ sizedMet enc Tryd.prog Tryd.f3 (OpenSpec.ofChange Rows.printsSpec) false w args)
      (Rows.printsSpec.post enc Tryd.prog Tryd.f3 false true false false) := by
  refine returnsInHanded_of_change_and (C := Tryd.checked) (X := fun w _ => laidMetH Tryd.prog Rows.printsRow.laid w) (fun _ _ _ hh h => h.of_heap hh) own started (by kernel_rfl) Tryd.func3
    (ChangeSpec.witness_shaped (enc := enc) (C := Tryd.checked) (os := os) (X := fun w _ => laidMetH Tryd.prog Rows.printsRow.laid w) false (World.doorLaid Tryd.prog 24 os) #[.string ⟨#[]⟩] 8 rfl (World.shaped_of_RefB (by kernel_rfl) (by kernel_rfl)) (by kernel_rfl) (by kernel_rfl) (by kernel_rfl) (door_met os _)) ?_
  intro W base args ds gs before hval0 hW _ _ hL _
  have hval : ∀ (j : Nat) t v, Tryd.f3.params[j]? = some t → args[j]? = some v → Value.okWide Tryd.prog W .any base t v := hval0
  have hW' := hW
  obtain ⟨p, q, hA0, hV, rfl, hfz, hnd⟩ := hW
  have hA : DataW.TrodAll enc Tryd.prog W 0 (fun _ => true) true Tryd.f3.params.toList args.toList ds p := hA0
  rw [Tryd.params3] at hA hval
  obtain ⟨v0, d0, rfl, rfl, h0⟩ := trodAll_one hA
  obtain ⟨rfl, rfl⟩ := trodVars_none hV
  obtain ⟨s, rfl, rfl, rfl, ws⟩ := open_string Tryd.underlying9 (hval 0 9 v0 rfl rfl) h0
  clear hA0 hval0 hL
  simp only [List.append_nil] at hW'
  refine (prints_walk s W).mono fun e W' ⟨he, hu⟩ => ?_
  subst he
  exact ⟨_, rfl, _, _, _, [], [], [], hW', trodAll_mk1 (shut_bool Tryd.underlying4 _), trodAll_mk1 (shut_string Tryd.underlying9 ws), rfl, (Below.of_upd hu).frame _, fun h => by cases h⟩

theorem prints_row : Rows.PrintsSaid :=
  OpenClaim.holds_of_wide 3 Tryd.f3 rfl rfl rfl rfl rfl rfl rfl ⟨rfl, rfl, rfl, rfl, rfl⟩ rfl rfl rfl rfl rfl (by kernel_rfl) Tryd.func3 (by kernel_rfl)
    (of_decide_eq_true (by kernel_rfl)) (by unfold Func.isWrapper; first | (rw [if_pos (by decide +kernel)]; kernel_rfl) | (rw [if_neg (by decide +kernel)]; exact ⟨rfl, rfl⟩))
    (fun os started H enc _ => lifted os started H enc)

theorem prints_holds : Rows.PrintsCardSaid :=
  Claim7.holds_tied_plain_at .later [] [.data, .data, .data] true (true, "22456f5298ff2c4d95b10b7c08eff48f7fa4e04b87b259e99635e560f47cbe2f") false
    prints_row (fun _ h => by cases h) (by kernel_rfl) (fun _ h => by cases h) prints_row_tie rfl ⟨rfl, rfl⟩ (by kernel_rfl) rfl
    (fun f fn hf hfn => by
      obtain rfl : f = 3 := Option.some.inj ((show Tryd.prog.funcNamed Rows.printsRow.func = some 3 by kernel_rfl).symm.trans hf) |>.symm
      obtain rfl : fn = Tryd.f3 := (Option.some.inj (Tryd.func3.symm.trans hfn)).symm
      exact ⟨by kernel_rfl, fun j t ht => by
        rw [Tryd.params3] at ht
        have h9 : t = 9 := by
          rcases j with _ | j
          · simpa using ht.symm
          · simp at ht
        subst h9
        exact (show Tryd.prog.wantsStandIn 9 = false by kernel_rfl)⟩)
    (by kernel_rfl)
#print axioms prints_holds
end Go.Proofs.YtadmlifmcdnhnaaDoor
