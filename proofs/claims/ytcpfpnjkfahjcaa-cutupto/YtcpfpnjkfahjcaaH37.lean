import Derived.Test.YtcpfpnjkfahjcaaH36
set_option linter.unusedSimpArgs false
set_option linter.unusedVariables false
namespace Go.Proofs.Ytcpfpnjkfahjcaa
open Go.RowKit

/-- What a record is told to be: its code, its spans. -/
def apartS (t : Tr) (lim from_ len : Nat) (L : List UInt8) : Int × Option (Nat → Int × Int) :=
  if lim < len then (2, none) else match wholeS t (str L) with
    | none => (1, none)
    | some f => (0, some fun k => Sp.mv from_ (f k))
theorem ofNat_toNat (x : UInt8) : Sp.u8 (x.toNat : Int) = x := by
  unfold Sp.u8
  apply UInt8.toNat_inj.mp
  rw [Int.toNat_natCast, UInt8.toNat_ofNat']
  have := x.toNat_lt
  omega
theorem convHeld {w : World} {c p lim num from_ len g h cap : Nat} {L : List UInt8} (C : CuAt w c p lim num from_ len (.slice (some ⟨g, 0, none⟩) h cap) L) : (convert 46 9 (.slice (some ⟨g, 0, none⟩) h cap)).run Try.prog w = .ok (.string (str L)) w := by
  obtain ⟨hL, hc⟩ := C.len
  have cells : ∀ i (hi : i < L.length), w.cell? ⟨g, 0 + i, none⟩ = some (.int .u8 ((L[i]).toNat : Int)) := fun i hi => by
    rcases C.held.2 with ⟨q, _⟩ | ⟨g', cap', cur, q, _, hg, _, _, hs, ht⟩
    · cases q
    · cases q
      have hx : (cur.toList.take (L.length * 1))[i]? = some (byteV L[i]) := by rw [ht, List.getElem?_map, List.getElem?_eq_getElem hi]; rfl
      rw [List.getElem?_take_of_lt (by omega), Array.getElem?_toList] at hx
      simp only [World.cell?, hg, Nat.zero_add]
      exact hx
  have e2 : strOfNums (L.map fun x => (x.toNat : Int)) = str L := by
    show str ((L.map fun x => (x.toNat : Int)).map Sp.u8) = str L
    rw [List.map_map]
    have : L.map (Sp.u8 ∘ fun x => (x.toNat : Int)) = L.map id := List.map_congr_left (fun x _ => ofNat_toNat x)
    rw [this, List.map_id]
  have := run_convert_bytes_arg (P := Try.prog) w 46 5 Try.underlying46 Try.underlying5 g 0 h cap (L.map fun x => (x.toNat : Int)) (by simp [hL]) (fun i hi => by
    have hi' : i < L.length := by omega
    rw [cells i hi']; simp [List.getElem?_eq_getElem hi']) 9 Try.underlying9
  rw [this, e2]
theorem eqlNil (w : World) (a : Option Addr) (n c : Nat) : (binOp .eql 30 (.slice a n c) (.slice none 0 0)).run Try.prog w = .ok (.bool a.isNone) w := by
  cases a <;> kernel_rfl
theorem sWhole_no (p : Nat) (u : Tr) (n : Nat) (t : ByteArray) (w : World) (ht : t.size ≤ 100) (h : PatAt w p u n) (hr : wholeS u t = none) : Calls Try.prog 35 #[.pointer (some ⟨p, 0, none⟩), .string t] w fun e w' => e = .returned (.slice none 0 0) ∧ Upd [] w w' := by
  refine (sWhole_any p u n t w ht h).mono ?_
  rw [hr]
  rintro e w' ⟨q, h⟩; exact ⟨h, q⟩
theorem sWhole_yes (p : Nat) (u : Tr) (n : Nat) (t : ByteArray) (w : World) (ht : t.size ≤ 100) (h : PatAt w p u n) {f : Nat → Int × Int} (hr : wholeS u t = some f) : Calls Try.prog 35 #[.pointer (some ⟨p, 0, none⟩), .string t] w fun e w' => ∃ g, w.heap.size ≤ g ∧ e = .returned (.slice (some ⟨g, 0, none⟩) (n + 1) (n + 1)) ∧ SpansAt w' g (n + 1) f ∧ Upd [] w w' := by
  refine (sWhole_any p u n t w ht h).mono ?_
  rw [hr]
  rintro e w' ⟨q, g, h1, h2, h3⟩; exact ⟨g, h1, h2, h3, q⟩
set_option maxRecDepth 8000 in
set_option maxHeartbeats 1600000 in
theorem cuApart_long (c p lim num from_ len : Nat) (v : Value) (L : List UInt8) (w : World) (hl : lim ≤ 100) (hlen : len ≤ 3000000) (h : lim < len) (C : CuAt w c p lim num from_ len v L) : Calls Try.prog 66 #[.pointer (some ⟨c, 0, none⟩)] w fun e w' => e = .returned (.tuple #[.int .i64 2, .slice none 0 0]) ∧ Upd [] w w' := by
  have c0 : w.cell? ⟨c, 0, none⟩ = some (.int .i64 lim) := by rw [World.cell?, C.cell]; rfl
  have c4 : w.cell? ⟨c, 4, none⟩ = some (.int .i64 len) := by rw [World.cell?, C.cell]; rfl
  clear C
  have h' : (lim : Int) < len := by omega
  go_enter Try.func66, Try.ntmps66
  go_wp2_with fail
  go_quiet (fail)
  go_wp2_with fail
  go_ret2
  exact ⟨rfl, by (repeat (first | exact Upd.refl _ _ | refine Upd.drewN ?_ | refine Upd.drew ?_ | refine Upd.setCell ?_ (by simp) _ | refine Upd.alloc ?_ _))⟩
set_option maxRecDepth 8000 in
set_option maxHeartbeats 1600000 in
theorem cuApart_no (c p lim num from_ len g h cap : Nat) (L : List UInt8) (t : Tr) (n : Nat) (w : World) (hl : lim ≤ 100) (hL : L.length ≤ lim) (hlen : len ≤ lim) (C : CuAt w c p lim num from_ len (.slice (some ⟨g, 0, none⟩) h cap) L) (P : PatAt w p t n) (hr : wholeS t (str L) = none) : Calls Try.prog 66 #[.pointer (some ⟨c, 0, none⟩)] w fun e w' => e = .returned (.tuple #[.int .i64 1, .slice none 0 0]) ∧ Upd [] w w' := by
  have HP : Hid (PatAt w p t n) := P
  have HR : Hid (wholeS t (str L) = none) := hr
  have HC : Hid (CuAt w c p lim num from_ len (.slice (some ⟨g, 0, none⟩) h cap) L) := C
  have hz : (str L).size ≤ 100 := by rw [Sp.str_size]; omega
  have c0 : w.cell? ⟨c, 0, none⟩ = some (.int .i64 lim) := by rw [World.cell?, C.cell]; rfl
  have c1 : w.cell? ⟨c, 1, none⟩ = some (.func (.func 35) #[.pointer (some ⟨p, 0, none⟩)] #[]) := by rw [World.cell?, C.cell]; rfl
  have c4 : w.cell? ⟨c, 4, none⟩ = some (.int .i64 len) := by rw [World.cell?, C.cell]; rfl
  have c5 : w.cell? ⟨c, 5, none⟩ = some (.slice (some ⟨g, 0, none⟩) h cap) := by rw [World.cell?, C.cell]; rfl
  clear C P hr
  have h' : ¬ (lim : Int) < len := by omega
  have hnil := eqlNil
  go_enter Try.func66, Try.ntmps66
  go_wp2_with fail
  go_quiet (fail)
  go_wp2_with fail
  have hcv : (convert 46 9 (.slice (some ⟨g, 0, none⟩) h cap)).run Try.prog (w.drewN nq).drew = .ok (.string (str L)) (w.drewN nq).drew := convHeld (CuAt.drew (HC.out.blocks rfl (fun _ _ => rfl)))
  have U1 : Hid (Upd [] w (w.drewN nq).drew) := by (repeat (first | exact Upd.refl _ _ | refine Upd.drewN ?_ | refine Upd.drew ?_ | refine Upd.setCell ?_ (by simp) _ | refine Upd.alloc ?_ _))
  have d1 : (w.drewN nq).cell? ⟨c, 1, none⟩ = some (.func (.func 35) #[.pointer (some ⟨p, 0, none⟩)] #[]) := by rw [← c1]; simp
  have d5 : (w.drewN nq).cell? ⟨c, 5, none⟩ = some (.slice (some ⟨g, 0, none⟩) h cap) := by rw [← c5]; simp
  generalize w.drewN nq = w1 at *
  go_region_with (go_at_call 35; refine (sWhole_no p t n (str L) _ hz (HP.out.upd U1.out) HR.out).mono ?_; rintro e w2 ⟨rfl, u2⟩; have U2 : Hid (Upd [] w w2) := U1.out.trans u2; clear u2)
  all_goals go_wp2_with fail
  all_goals go_ret2
  all_goals exact ⟨rfl, U2.out⟩
end Go.Proofs.Ytcpfpnjkfahjcaa

set_option linter.unusedSimpArgs false
set_option linter.unusedVariables false
namespace Go.Proofs.Ytcpfpnjkfahjcaa
open Go.RowKit

set_option maxRecDepth 8000 in
set_option maxHeartbeats 1600000 in
theorem cuApart_yes (c p lim num from_ len g h cap : Nat) (L : List UInt8) (t : Tr) (n : Nat) (f : Nat → Int × Int) (w : World) (hl : lim ≤ 100) (hL : L.length ≤ lim) (hlen : len ≤ lim) (hfr : from_ ≤ 3000000) (C : CuAt w c p lim num from_ len (.slice (some ⟨g, 0, none⟩) h cap) L) (P : PatAt w p t n) (hr : wholeS t (str L) = some f) : Calls Try.prog 66 #[.pointer (some ⟨c, 0, none⟩)] w fun e w' => ∃ q, w.heap.size ≤ q ∧ e = .returned (.tuple #[.int .i64 0, .slice (some ⟨q, 0, none⟩) (n + 1) (n + 1)]) ∧ SpansAt w' q (n + 1) (fun k => Sp.mv from_ (f k)) ∧ Upd [] w w' := by
  have HP : Hid (PatAt w p t n) := P
  have HR : Hid (wholeS t (str L) = some f) := hr
  have HC : Hid (CuAt w c p lim num from_ len (.slice (some ⟨g, 0, none⟩) h cap) L) := C
  have hz : (str L).size ≤ 100 := by rw [Sp.str_size]; omega
  have hn : n ≤ 9 := P.1
  have HB : Hid (∀ k, k < n + 1 → -1 ≤ (f k).1 ∧ (f k).1 ≤ 1000 ∧ -1 ≤ (f k).2 ∧ (f k).2 ≤ 1000) := fun k _ => wholeS_bd (by omega) hr k
  have hc : c < w.heap.size := lt_of_heap C.cell
  have c0 : w.cell? ⟨c, 0, none⟩ = some (.int .i64 lim) := by rw [World.cell?, C.cell]; rfl
  have c1 : w.cell? ⟨c, 1, none⟩ = some (.func (.func 35) #[.pointer (some ⟨p, 0, none⟩)] #[]) := by rw [World.cell?, C.cell]; rfl
  have c4 : w.cell? ⟨c, 4, none⟩ = some (.int .i64 len) := by rw [World.cell?, C.cell]; rfl
  have c5 : w.cell? ⟨c, 5, none⟩ = some (.slice (some ⟨g, 0, none⟩) h cap) := by rw [World.cell?, C.cell]; rfl
  have C3 : Hid (w.cell? ⟨c, 3, none⟩ = some (.int .i64 from_)) := by show _ = _; rw [World.cell?, C.cell]; rfl
  clear C P hr
  have h' : ¬ (lim : Int) < len := by omega
  have hnil := eqlNil
  go_enter Try.func66, Try.ntmps66
  go_wp2_with fail
  go_quiet (fail)
  go_wp2_with fail
  have hcv : (convert 46 9 (.slice (some ⟨g, 0, none⟩) h cap)).run Try.prog (w.drewN nq).drew = .ok (.string (str L)) (w.drewN nq).drew := convHeld (CuAt.drew (HC.out.blocks rfl (fun _ _ => rfl)))
  have U1 : Hid (Upd [] w (w.drewN nq).drew) := by (repeat (first | exact Upd.refl _ _ | refine Upd.drewN ?_ | refine Upd.drew ?_ | refine Upd.setCell ?_ (by simp) _ | refine Upd.alloc ?_ _))
  have d1 : (w.drewN nq).cell? ⟨c, 1, none⟩ = some (.func (.func 35) #[.pointer (some ⟨p, 0, none⟩)] #[]) := by rw [← c1]; simp
  have d5 : (w.drewN nq).cell? ⟨c, 5, none⟩ = some (.slice (some ⟨g, 0, none⟩) h cap) := by rw [← c5]; simp
  generalize w.drewN nq = w1 at *
  go_region_with (go_at_call 35; refine (sWhole_yes p t n (str L) _ hz (HP.out.upd U1.out) HR.out).mono ?_; rintro e w2 ⟨q, hq, rfl, s2, u2⟩; have U2 : Hid (Upd [] w w2) := U1.out.trans u2; have HQ : Hid (w.heap.size ≤ q) := Nat.le_trans U1.out.size hq; have S2 : Hid (SpansAt w2 q (n + 1) f) := s2; have e3 : w2.cell? ⟨c, 3, none⟩ = some (.int .i64 from_) := (cell_eq (U2.out.block c hc (by simp)) _).trans C3.out; clear u2 s2 hq)
  all_goals go_wp2_with fail
  all_goals
    refine (cuMove_any q (n + 1) from_ f _ (by omega) hfr HB.out S2.out).mono ?_
    rintro e w3 ⟨rfl, u3, s3⟩
    have U3 : Hid (Upd [] w w3) := U2.out.hide u3 HQ.out
    have S3 : Hid (SpansAt w3 q (n + 1) (fun k => Sp.mv from_ (f k))) := s3
    clear u3 s3
    go_wp2_with fail
    go_ret2
    exact ⟨q, HQ.out, rfl, S3.out, U3.out⟩
/-- A cutter tells how much it holds. -/
theorem cuHeld_any (c p lim num from_ len g h cap : Nat) (L : List UInt8) (w : World) (C : CuAt w c p lim num from_ len (.slice (some ⟨g, 0, none⟩) h cap) L) : Calls Try.prog 39 #[.pointer (some ⟨c, 0, none⟩)] w fun e w' => e = .returned (.int .i64 h) ∧ Upd [] w w' := by
  have c5 : w.cell? ⟨c, 5, none⟩ = some (.slice (some ⟨g, 0, none⟩) h cap) := by rw [World.cell?, C.cell]; rfl
  clear C
  go_enter Try.func39, Try.ntmps39
  go_wp2_with fail
  go_ret
  exact ⟨rfl, by (repeat (first | exact Upd.refl _ _ | refine Upd.drewN ?_ | refine Upd.drew ?_ | refine Upd.setCell ?_ (by simp) _ | refine Upd.alloc ?_ _))⟩
theorem stRef_any (s c : Nat) (w : World) (S : StAt w s c) : Calls Try.prog 36 #[.pointer (some ⟨s, 0, none⟩)] w fun e w' => e = .returned (.int .i64 0) ∧ Upd [] w w' := by
  have s0 : w.cell? ⟨s, 0, none⟩ = some (.pointer (some ⟨c, 0, none⟩)) := by unfold StAt at S; rw [World.cell?, S]; rfl
  clear S
  go_enter Try.func36, Try.ntmps36
  go_wp2_with fail
  go_ret
  exact ⟨rfl, by (repeat (first | exact Upd.refl _ _ | refine Upd.drewN ?_ | refine Upd.drew ?_ | refine Upd.setCell ?_ (by simp) _ | refine Upd.alloc ?_ _))⟩
end Go.Proofs.Ytcpfpnjkfahjcaa

set_option linter.unusedSimpArgs false
set_option linter.unusedVariables false
namespace Go.Proofs.Ytcpfpnjkfahjcaa
open Go.RowKit

/-- The spans of a record, as they lie. -/
def RecSp (w : World) (a : Option Addr) (m n : Nat) : Option (Nat → Int × Int) → Prop
  | none => a = none ∧ m = 0
  | some f => ∃ q, a = some ⟨q, 0, none⟩ ∧ m = n ∧ SpansAt w q n f
def ApartOut (n : Nat) (r : Int × Option (Nat → Int × Int)) (w : World) (e : Ending) (w' : World) : Prop :=
  ∃ a m, e = .returned (.tuple #[.int .i64 r.1, .slice a m m]) ∧ RecSp w' a m n r.2 ∧ (∀ q o s, a = some ⟨q, o, s⟩ → w.heap.size ≤ q) ∧ Upd [] w w'
theorem cuApart_any (c p lim num from_ len g h cap : Nat) (L : List UInt8) (t : Tr) (n : Nat) (w : World) (hl : lim ≤ 100) (hL : L.length ≤ lim) (hlen : len ≤ 3000000) (hfr : from_ ≤ 3000000) (C : CuAt w c p lim num from_ len (.slice (some ⟨g, 0, none⟩) h cap) L) (P : PatAt w p t n) : Calls Try.prog 66 #[.pointer (some ⟨c, 0, none⟩)] w (ApartOut (n + 1) (apartS t lim from_ len L) w) := by
  by_cases h1 : lim < len
  · refine (cuApart_long c p lim num from_ len _ L w hl hlen h1 C).mono ?_
    rintro e w' ⟨rfl, u⟩
    have : apartS t lim from_ len L = (2, none) := by unfold apartS; rw [if_pos h1]
    rw [this]
    exact ⟨none, 0, rfl, ⟨rfl, rfl⟩, fun q o s hq => (by cases hq), u⟩
  · cases hr : wholeS t (str L) with
    | none =>
      refine (cuApart_no c p lim num from_ len g h cap L t n w hl hL (by omega) C P hr).mono ?_
      rintro e w' ⟨rfl, u⟩
      have : apartS t lim from_ len L = (1, none) := by unfold apartS; rw [if_neg h1, hr]
      rw [this]
      exact ⟨none, 0, rfl, ⟨rfl, rfl⟩, fun q o s hq => (by cases hq), u⟩
    | some f =>
      refine (cuApart_yes c p lim num from_ len g h cap L t n f w hl hL (by omega) hfr C P hr).mono ?_
      rintro e w' ⟨q, hq, rfl, hs, u⟩
      have : apartS t lim from_ len L = (0, some fun k => Sp.mv from_ (f k)) := by unfold apartS; rw [if_neg h1, hr]
      rw [this]
      exact ⟨some ⟨q, 0, none⟩, n + 1, rfl, ⟨q, rfl, rfl, hs⟩, fun q' o s hq' => (by cases hq'; exact hq), u⟩
end Go.Proofs.Ytcpfpnjkfahjcaa
