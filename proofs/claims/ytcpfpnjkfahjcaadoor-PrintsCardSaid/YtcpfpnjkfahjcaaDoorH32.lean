import Derived.Test.YtcpfpnjkfahjcaaDoorH31
import Derived.Test.YtcpfpnjkfahjcaaDoorH02
import Derived.Laws.BytesArg
import Derived.Test.YtcpfpnjkfahjcaaDoorH03
set_option linter.unusedSimpArgs false
set_option linter.unusedVariables false
namespace Go.Proofs.YtcpfpnjkfahjcaaDoor
open Go.RowKit

theorem conv1 (w : World) (x : Int) : (convert 67 9 (.slice (some ⟨w.heap.size, 0, none⟩) 1 1)).run Tryd.prog (w.alloc (.cells #[.int .u8 x] 5)) = .ok (.string (str [Sp.u8 x])) (w.alloc (.cells #[.int .u8 x] 5)) :=
  run_convert_bytes_arg (P := Tryd.prog) (w.alloc (.cells #[.int .u8 x] 5)) 67 5 Tryd.underlying67 Tryd.underlying5 w.heap.size 0 1 1 [x] rfl (fun i hi => by
    obtain rfl : i = 0 := by omega
    simp) 9 Tryd.underlying9
theorem conv2 (w : World) (x y : Int) : (convert 67 9 (.slice (some ⟨w.heap.size, 0, none⟩) 2 2)).run Tryd.prog (w.alloc (.cells #[.int .u8 x, .int .u8 y] 5)) = .ok (.string (str [Sp.u8 x, Sp.u8 y])) (w.alloc (.cells #[.int .u8 x, .int .u8 y] 5)) :=
  run_convert_bytes_arg (P := Tryd.prog) (w.alloc (.cells #[.int .u8 x, .int .u8 y] 5)) 67 5 Tryd.underlying67 Tryd.underlying5 w.heap.size 0 2 2 [x, y] rfl (fun i hi => by
    rcases (by omega : i = 0 ∨ i = 1) with rfl | rfl <;> simp) 9 Tryd.underlying9

theorem ret_str {a b : ByteArray} (h : a = b) : Ending.returned (.string a) = .returned (.string b) := by rw [h]

/-- A text is handed back; nothing old has turned. -/
def StrOut (l : List UInt8) (w : World) (e : Ending) (w' : World) : Prop := e = .returned (.string (str l)) ∧ Upd [] w w'

set_option maxHeartbeats 400000 in
theorem digits_any (n : Int) (w : World) (h0 : 0 ≤ n) (h1 : n ≤ 20) :
    Calls Tryd.prog 22 #[.int .i64 n] w (StrOut (Sp.digs n) w) := by
  have k1 := conv1
  have k2 := conv2
  by_cases h : 9 < n
  · have HR : Hid (Sp.digs n = [Sp.u8 (48 + n / 10), Sp.u8 (48 + n % 10)]) := if_pos h
    go_enter Tryd.func22, Tryd.ntmps22
    go_wp2
    go_ret
    exact ⟨ret_str (by rw [HR.out]), by (repeat (first | exact Upd.refl _ _ | refine Upd.drewN ?_ | refine Upd.drew ?_ | refine Upd.setCell ?_ (by simp) _ | refine Upd.alloc ?_ _))⟩
  · have HR : Hid (Sp.digs n = [Sp.u8 (48 + n)]) := if_neg h
    go_enter Tryd.func22, Tryd.ntmps22
    go_wp2
    go_ret
    exact ⟨ret_str (by rw [HR.out]), by (repeat (first | exact Upd.refl _ _ | refine Upd.drewN ?_ | refine Upd.drew ?_ | refine Upd.setCell ?_ (by simp) _ | refine Upd.alloc ?_ _))⟩

def hexes : ByteArray := ⟨#[48, 49, 50, 51, 52, 53, 54, 55, 56, 57, 97, 98, 99, 100, 101, 102]⟩
theorem hexAt (n : Int) (h0 : 0 ≤ n) (h1 : n < 16) : hexes.extract n.toNat (n + 1).toNat = str [Sp.hexB n] := by
  rcases (by omega : n = 0 ∨ n = 1 ∨ n = 2 ∨ n = 3 ∨ n = 4 ∨ n = 5 ∨ n = 6 ∨ n = 7 ∨ n = 8 ∨ n = 9 ∨ n = 10 ∨ n = 11 ∨ n = 12 ∨ n = 13 ∨ n = 14 ∨ n = 15) with rfl | rfl | rfl | rfl | rfl | rfl | rfl | rfl | rfl | rfl | rfl | rfl | rfl | rfl | rfl | rfl <;> decide
theorem str_append (a b : List UInt8) : str a ++ str b = str (a ++ b) := by
  apply ByteArray.ext
  simp [str, ByteArray.data_append]

set_option maxHeartbeats 400000 in
theorem shown_any (c : Int) (l : Bool) (w : World) (h0 : 0 ≤ c) (h1 : c ≤ 255) :
    Calls Tryd.prog 36 #[.int .i64 c, .bool l] w (StrOut (Sp.shown c l) w) := by
  by_cases g1 : c = 10
  · subst g1
    go_enter Tryd.func36, Tryd.ntmps36
    go_wp2_with (go_at_call 51; refine (sign_any _ _).mono ?_; rintro e w' ⟨rfl, hw⟩; subst hw)
    go_ret
    exact ⟨ret_str rfl, by (repeat (first | exact Upd.refl _ _ | refine Upd.drewN ?_ | refine Upd.drew ?_ | refine Upd.setCell ?_ (by simp) _ | refine Upd.alloc ?_ _))⟩
  by_cases g2 : c = 9
  · subst g2
    go_enter Tryd.func36, Tryd.ntmps36
    go_wp2_with (go_at_call 51; refine (sign_any _ _).mono ?_; rintro e w' ⟨rfl, hw⟩; subst hw)
    go_ret
    exact ⟨ret_str rfl, by (repeat (first | exact Upd.refl _ _ | refine Upd.drewN ?_ | refine Upd.drew ?_ | refine Upd.setCell ?_ (by simp) _ | refine Upd.alloc ?_ _))⟩
  have e1 : (c == 10) = false := by simpa using g1
  have e2 : (c == 9) = false := by simpa using g2
  by_cases g3 : c < 33 ∨ 126 < c
  · have HR : Hid (Sp.shown c l = [92, 120, Sp.hexB (c / 16), Sp.hexB (c % 16)]) := by show _ = _; unfold Sp.shown; rw [if_neg g1, if_neg g2, if_pos g3]
    have HA : Hid (hexes.extract (c / 16).toNat (c / 16 + 1).toNat = str [Sp.hexB (c / 16)]) := hexAt _ (by omega) (by omega)
    have HB : Hid (hexes.extract (c % 16).toNat (c % 16 + 1).toNat = str [Sp.hexB (c % 16)]) := hexAt _ (by omega) (by omega)
    clear g1 g2
    rcases g3 with g3 | g3
    all_goals
      go_enter Tryd.func36, Tryd.ntmps36
      go_wp2_with (go_at_call 51; refine (sign_any _ _).mono ?_; rintro e w' ⟨rfl, hw⟩; subst hw)
      go_quiet (fail)
      go_wp2
      go_ret
      refine ⟨ret_str ?_, by (repeat (first | exact Upd.refl _ _ | refine Upd.drewN ?_ | refine Upd.drew ?_ | refine Upd.setCell ?_ (by simp) _ | refine Upd.alloc ?_ _))⟩
      rw [HR.out]
      show (str [92, 120] ++ hexes.extract _ _) ++ hexes.extract _ _ = _
      rw [HA.out, HB.out, str_append, str_append]; rfl
  have k1 := conv1
  have g4 : ¬ c < 33 := by omega
  have g5 : ¬ 126 < c := by omega
  have HS : Hid (Sp.shown c l = if (if l then Sp.listSign c else Sp.sign c) then [92, Sp.u8 c] else [Sp.u8 c]) := by show _ = _; unfold Sp.shown; rw [if_neg g1, if_neg g2, if_neg g3]
  clear g1 g2 g3
  by_cases hs : Sp.sign c = true
  · have HR : Hid (Sp.shown c l = [92, Sp.u8 c]) := by show _ = _; rw [HS.out]; cases l <;> simp [Sp.listSign, hs]
    go_enter Tryd.func36, Tryd.ntmps36
    go_wp2_with (go_at_call 51; refine (sign_any _ _).mono ?_; rintro e w' ⟨rfl, hw⟩; subst hw)
    go_ret
    refine ⟨ret_str ?_, by (repeat (first | exact Upd.refl _ _ | refine Upd.drewN ?_ | refine Upd.drew ?_ | refine Upd.setCell ?_ (by simp) _ | refine Upd.alloc ?_ _))⟩
    rw [HR.out]
    show str [92] ++ str [Sp.u8 c] = _
    rw [str_append]; rfl
  have hs : Sp.sign c = false := by simpa using hs
  cases l with
  | false =>
    have HR : Hid (Sp.shown c false = [Sp.u8 c]) := by show _ = _; rw [HS.out]; simp [hs]
    go_enter Tryd.func36, Tryd.ntmps36
    go_wp2_with (go_at_call 51; refine (sign_any _ _).mono ?_; rintro e w' ⟨rfl, hw⟩; subst hw)
    go_ret
    exact ⟨ret_str (by rw [HR.out]), by (repeat (first | exact Upd.refl _ _ | refine Upd.drewN ?_ | refine Upd.drew ?_ | refine Upd.setCell ?_ (by simp) _ | refine Upd.alloc ?_ _))⟩
  | true =>
    by_cases g6 : c = 45
    · subst g6
      go_enter Tryd.func36, Tryd.ntmps36
      go_wp2_with (go_at_call 51; refine (sign_any _ _).mono ?_; rintro e w' ⟨rfl, hw⟩; subst hw)
      go_ret
      refine ⟨ret_str ?_, by (repeat (first | exact Upd.refl _ _ | refine Upd.drewN ?_ | refine Upd.drew ?_ | refine Upd.setCell ?_ (by simp) _ | refine Upd.alloc ?_ _))⟩
      rw [HS.out]
      show str [92] ++ str [Sp.u8 45] = _
      rw [str_append]; rfl
    by_cases g7 : c = 94
    · subst g7
      go_enter Tryd.func36, Tryd.ntmps36
      go_wp2_with (go_at_call 51; refine (sign_any _ _).mono ?_; rintro e w' ⟨rfl, hw⟩; subst hw)
      go_ret
      refine ⟨ret_str ?_, by (repeat (first | exact Upd.refl _ _ | refine Upd.drewN ?_ | refine Upd.drew ?_ | refine Upd.setCell ?_ (by simp) _ | refine Upd.alloc ?_ _))⟩
      rw [HS.out]
      show str [92] ++ str [Sp.u8 94] = _
      rw [str_append]; rfl
    have e6 : (c == 45) = false := by simpa using g6
    have e7 : (c == 94) = false := by simpa using g7
    have HR : Hid (Sp.shown c true = [Sp.u8 c]) := by show _ = _; rw [HS.out]; simp [Sp.listSign, hs, g6, g7]
    clear g6 g7
    go_enter Tryd.func36, Tryd.ntmps36
    go_wp2_with (go_at_call 51; refine (sign_any _ _).mono ?_; rintro e w' ⟨rfl, hw⟩; subst hw)
    go_ret
    exact ⟨ret_str (by rw [HR.out]), by (repeat (first | exact Upd.refl _ _ | refine Upd.drewN ?_ | refine Upd.drew ?_ | refine Upd.setCell ?_ (by simp) _ | refine Upd.alloc ?_ _))⟩
end Go.Proofs.YtcpfpnjkfahjcaaDoor

set_option linter.unusedSimpArgs false
set_option linter.unusedVariables false
namespace Go.Proofs.YtcpfpnjkfahjcaaDoor
open Go.RowKit

theorem str_size (l : List UInt8) : (str l).size = l.length := by simp [str, ByteArray.size]
/-- Kept from simp. -/
def cat (a b : List UInt8) : List UInt8 := a ++ b
theorem cat_len (a b : List UInt8) : (cat a b).length = a.length + b.length := by simp [cat]
theorem addS (a b : List UInt8) (ha : a.length ≤ 8000000) (hb : b.length ≤ 8000000) (w : World) : (Op.stringOp .add (str a) (str b)).run Tryd.prog w = .ok (.string (str (cat a b))) w := by
  rw [run_string_add (P := Tryd.prog) (w := w) (str a) (str b) (by rw [str_size]; omega) (by rw [str_size]; omega), str_append]; rfl
theorem shown_len (c : Int) (l : Bool) : (Sp.shown c l).length ≤ 4 := by unfold Sp.shown; (repeat' split) <;> simp

structure ListedInv (f : Nat → Bool) (w : World) (n : Nat) (s c : Value) (wr : World) : Prop where
  upd : Upd [] w wr
  st : ∃ acc cc, s = .string (str acc) ∧ c = .int .i64 ((cc : Nat) : Int) ∧ Sp.listed f = acc ++ Sp.listedFrom f n cc ∧ 257 ≤ n + cc ∧ cc ≤ 256 ∧ acc.length ≤ 9 * cc
structure RunInv (f : Nat → Bool) (w : World) (c0 n : Nat) (last : Value) (wr : World) : Prop where
  world : wr = w
  st : ∃ cc, last = .int .i64 ((cc : Nat) : Int) ∧ Sp.runLast f 256 c0 = Sp.runLast f n cc ∧ 256 ≤ n + cc ∧ c0 ≤ cc ∧ cc ≤ 255

theorem runLast_zero (f : Nat → Bool) (n cc : Nat) (h : 256 ≤ n + cc) (hc : cc ≤ 255) : ∃ m, n = m + 1 := ⟨n - 1, by omega⟩

set_option maxRecDepth 100000 in
set_option maxHeartbeats 1000000 in
theorem listed_any (f : Nat → Bool) (c : Array Value) (hc : c.size = 256) (hf : ∀ i, i < 256 → c[i]? = some (.bool (f i))) (w : World) :
    Calls Tryd.prog 37 #[.agg c] w (StrOut (Sp.listed f) w) := by
  have hcell : ∀ i, i < 256 → (w.alloc (.cells c 75)).cell? ⟨w.heap.size, i, none⟩ = some (.bool (f i)) := fun i hi => by simp [hf i hi]
  have hsz : w.heap.size < (w.alloc (.cells c 75)).heap.size := by simp
  have HU0 : Hid (Upd [] w (w.alloc (.cells c 75))) := (Upd.refl _ _).alloc _
  go_enter Tryd.func37, Tryd.ntmps37
  go_wp2_with fail
  clear hf hc
  generalize hw1 : w.alloc (.cells c 75) = w1 at *
  clear hw1
  go_loopg [3, 4] 257 (fun gn s cv wr => ListedInv f w1 gn s cv wr)
  case atStart => exact ⟨Upd.refl _ _, [], 0, rfl, rfl, rfl, by omega, by omega, by simp⟩
  case round =>
    obtain ⟨hu, acc, cc, rfl, rfl, heq, hn, hcc, hal⟩ := hrel
    have hcr : ∀ i, i < 256 → wr.cell? ⟨w.heap.size, i, none⟩ = some (.bool (f i)) := fun i hi => by
      rw [World.cell?_of_block (w := w1) (hu.block w.heap.size hsz (by simp))]; exact hcell i hi
    clear hcell
    have HU : Hid (Upd [] w1 wr) := hu
    have HQ : Hid (Sp.listed f = acc ++ Sp.listedFrom f gk cc) := heq
    clear hu heq
    by_cases hlt : cc < 256
    · obtain ⟨fuel, rfl⟩ : ∃ n, gk = n + 1 := ⟨gk - 1, by omega⟩
      have hc1 := hcr cc hlt
      cases hfc : f cc
      case false =>
        have HN : Hid (Sp.listed f = acc ++ Sp.listedFrom f fuel (cc + 1)) := by show _ = _; rw [HQ.out, Sp.listedFrom, if_pos hlt, if_neg (by simp [hfc])]
        rw [hfc] at hc1
        clear hcr hfc
        go_wp2_with fail
        go_roundg fuel
        case measure => omega
        case rel => exact ⟨HU.out, acc, cc + 1, rfl, by go_num, HN.out, by omega, by omega, by omega⟩
      case true =>
        obtain ⟨last, hlast⟩ : ∃ l, Sp.runLast f 256 cc = l := ⟨_, rfl⟩
        have hl1 : cc ≤ last := by rw [← hlast]; exact Sp.runLast_ge f 256 cc
        have hl2 : last ≤ 255 := by rw [← hlast]; exact Sp.runLast_le f 256 cc (by omega)
        have HN : Hid (Sp.listed f = acc ++ (Sp.piece cc last ++ Sp.listedFrom f fuel (last + 1))) := by show _ = _; rw [HQ.out, Sp.listedFrom, if_pos hlt, if_pos hfc, hlast]
        have HL : Hid (Sp.runLast f 256 cc = last) := hlast
        rw [hfc] at hc1
        have HCR : Hid (∀ i, i < 256 → wr.cell? ⟨w.heap.size, i, none⟩ = some (.bool (f i))) := hcr
        clear hcr hfc hlast
        have hdec : decide ((cc : Int) < 256) = true := by simp; omega
        go_wp2_with fail
        go_loopg [5] 256 (fun gn lv wi => RunInv f wr cc gn lv wi)
        case atStart => exact ⟨rfl, cc, rfl, rfl, by omega, by omega, by omega⟩
        case round =>
          obtain ⟨hwi, lc, rfl, hrl, hgn, hlc0, hlc1⟩ := hrel
          subst hwi
          obtain ⟨fu2, rfl⟩ : ∃ n, gk = n + 1 := ⟨gk - 1, by omega⟩
          by_cases h255 : lc < 255
          · have hc2 := HCR.out (lc + 1) (by omega)
            cases hf2 : f (lc + 1)
            case true =>
              have HRL : Hid (Sp.runLast f 256 cc = Sp.runLast f fu2 (lc + 1)) := by show _ = _; rw [hrl, Sp.runLast, if_pos ⟨h255, hf2⟩]
              rw [hf2] at hc2
              clear hrl hf2
              go_wp2_with fail
              go_roundg fu2
              case measure => omega
              case rel => exact ⟨rfl, lc + 1, by go_num, HRL.out, by omega, by omega, by omega⟩
            case false =>
              have hle : lc = last := by rw [← HL.out, hrl, Sp.runLast, if_neg (by simp [hf2])]
              rw [hf2] at hc2
              clear hrl hf2
              have HN' : Hid (Sp.listed f = acc ++ (Sp.piece cc lc ++ Sp.listedFrom f fuel (lc + 1))) := by show _ = _; rw [hle]; exact HN.out
              clear hle HN HL HCR
              go_wp2_with fail
              refine (shown_any cc true _ (by omega) (by omega)).mono ?_
              rintro e w3 ⟨rfl, hu3⟩
              have HU3 : Hid (Upd [] w1 w3) := HU.out.trans hu3
              clear hu3
              go_wp2_with fail
              refine (shown_any lc true _ (by omega) (by omega)).mono ?_
              rintro e w4 ⟨rfl, hu4⟩
              have HU4 : Hid (Upd [] w1 w4) := HU3.out.trans hu4
              clear hu4
              have s1 := shown_len cc true
              have s2 := shown_len lc true
              have k1 := addS acc (Sp.shown cc true) (by omega) (by omega)
              have k2 := addS (cat acc (Sp.shown cc true)) (Sp.shown lc true) (by rw [cat_len]; omega) (by omega)
              have k3 : ∀ w, (Op.stringOp .add (str (cat acc (Sp.shown cc true))) ⟨#[45]⟩).run Tryd.prog w = .ok (.string (str (cat (cat acc (Sp.shown cc true)) [45]))) w := addS _ [45] (by rw [cat_len]; omega) (by simp)
              have k4 := addS (cat (cat acc (Sp.shown cc true)) [45]) (Sp.shown lc true) (by rw [cat_len, cat_len]; simp; omega) (by omega)
              by_cases hd0 : lc = cc
              · have hb0 : (((lc : Int) - (cc : Int)) == 0) = true := by simp; omega
                have HP : Hid (Sp.piece cc lc = Sp.shown cc true) := if_pos hd0
                clear hd0
                go_wp2_with fail
                go_roundg fuel
                case measure => omega
                case rel => exact ⟨HU4.out, acc ++ Sp.piece cc lc, lc + 1, by rw [HP.out]; rfl, by go_num, by rw [HN'.out, List.append_assoc], by omega, by omega, by rw [HP.out]; simp; omega⟩
              have hb0 : (((lc : Int) - (cc : Int)) == 0) = false := by simp; omega
              by_cases hd1 : lc = cc + 1
              · have hb1 : (((lc : Int) - (cc : Int)) == 1) = true := by simp; omega
                have HP : Hid (Sp.piece cc lc = Sp.shown cc true ++ Sp.shown lc true) := by show _ = _; unfold Sp.piece; rw [if_neg hd0, if_pos hd1]
                clear hd0 hd1
                go_wp2_with fail
                go_roundg fuel
                case measure => omega
                case rel => exact ⟨HU4.out, acc ++ Sp.piece cc lc, lc + 1, by rw [HP.out, ← List.append_assoc]; rfl, by go_num, by rw [HN'.out, List.append_assoc], by omega, by omega, by rw [HP.out]; simp; omega⟩
              have hb1 : (((lc : Int) - (cc : Int)) == 1) = false := by simp; omega
              have HP : Hid (Sp.piece cc lc = Sp.shown cc true ++ [45] ++ Sp.shown lc true) := by show _ = _; unfold Sp.piece; rw [if_neg hd0, if_neg hd1]
              clear hd0 hd1
              go_wp2_with fail
              go_roundg fuel
              case measure => omega
              case rel => exact ⟨HU4.out, acc ++ Sp.piece cc lc, lc + 1, by rw [HP.out, ← List.append_assoc, ← List.append_assoc]; rfl, by go_num, by rw [HN'.out, List.append_assoc], by omega, by omega, by rw [HP.out]; simp; omega⟩
          · have hle : lc = last := by rw [← HL.out, hrl, Sp.runLast, if_neg (by omega)]
            clear hrl
            have HN' : Hid (Sp.listed f = acc ++ (Sp.piece cc lc ++ Sp.listedFrom f fuel (lc + 1))) := by show _ = _; rw [hle]; exact HN.out
            clear hle HN HL HCR
            go_wp2_with fail
            refine (shown_any cc true _ (by omega) (by omega)).mono ?_
            rintro e w3 ⟨rfl, hu3⟩
            have HU3 : Hid (Upd [] w1 w3) := HU.out.trans hu3
            clear hu3
            go_wp2_with fail
            refine (shown_any lc true _ (by omega) (by omega)).mono ?_
            rintro e w4 ⟨rfl, hu4⟩
            have HU4 : Hid (Upd [] w1 w4) := HU3.out.trans hu4
            clear hu4
            have s1 := shown_len cc true
            have s2 := shown_len lc true
            have k1 := addS acc (Sp.shown cc true) (by omega) (by omega)
            have k2 := addS (cat acc (Sp.shown cc true)) (Sp.shown lc true) (by rw [cat_len]; omega) (by omega)
            have k3 : ∀ w, (Op.stringOp .add (str (cat acc (Sp.shown cc true))) ⟨#[45]⟩).run Tryd.prog w = .ok (.string (str (cat (cat acc (Sp.shown cc true)) [45]))) w := addS _ [45] (by rw [cat_len]; omega) (by simp)
            have k4 := addS (cat (cat acc (Sp.shown cc true)) [45]) (Sp.shown lc true) (by rw [cat_len, cat_len]; simp; omega) (by omega)
            by_cases hd0 : lc = cc
            · have hb0 : (((lc : Int) - (cc : Int)) == 0) = true := by simp; omega
              have HP : Hid (Sp.piece cc lc = Sp.shown cc true) := if_pos hd0
              clear hd0
              go_wp2_with fail
              go_roundg fuel
              case measure => omega
              case rel => exact ⟨HU4.out, acc ++ Sp.piece cc lc, lc + 1, by rw [HP.out]; rfl, by go_num, by rw [HN'.out, List.append_assoc], by omega, by omega, by rw [HP.out]; simp; omega⟩
            have hb0 : (((lc : Int) - (cc : Int)) == 0) = false := by simp; omega
            by_cases hd1 : lc = cc + 1
            · have hb1 : (((lc : Int) - (cc : Int)) == 1) = true := by simp; omega
              have HP : Hid (Sp.piece cc lc = Sp.shown cc true ++ Sp.shown lc true) := by show _ = _; unfold Sp.piece; rw [if_neg hd0, if_pos hd1]
              clear hd0 hd1
              go_wp2_with fail
              go_roundg fuel
              case measure => omega
              case rel => exact ⟨HU4.out, acc ++ Sp.piece cc lc, lc + 1, by rw [HP.out, ← List.append_assoc]; rfl, by go_num, by rw [HN'.out, List.append_assoc], by omega, by omega, by rw [HP.out]; simp; omega⟩
            have hb1 : (((lc : Int) - (cc : Int)) == 1) = false := by simp; omega
            have HP : Hid (Sp.piece cc lc = Sp.shown cc true ++ [45] ++ Sp.shown lc true) := by show _ = _; unfold Sp.piece; rw [if_neg hd0, if_neg hd1]
            clear hd0 hd1
            go_wp2_with fail
            go_roundg fuel
            case measure => omega
            case rel => exact ⟨HU4.out, acc ++ Sp.piece cc lc, lc + 1, by rw [HP.out, ← List.append_assoc, ← List.append_assoc]; rfl, by go_num, by rw [HN'.out, List.append_assoc], by omega, by omega, by rw [HP.out]; simp; omega⟩
    · have hcc' : cc = 256 := by omega
      subst hcc'
      have HN : Hid (Sp.listed f = acc) := by show _ = _; rw [HQ.out, Sp.listedFrom_out _ _ _ (by omega), List.append_nil]
      clear hcr
      go_wp2_with fail
      go_ret
      exact ⟨ret_str (by rw [HN.out]), HU0.out.trans HU.out⟩
end Go.Proofs.YtcpfpnjkfahjcaaDoor
