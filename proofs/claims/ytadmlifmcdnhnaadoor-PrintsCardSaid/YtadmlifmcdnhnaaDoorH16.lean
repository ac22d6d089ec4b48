import Derived.Test.YtadmlifmcdnhnaaDoorH15
set_option linter.unusedSimpArgs false
set_option linter.unusedVariables false
namespace Go.Proofs.YtadmlifmcdnhnaaDoor
open Go.RowKit

theorem str_size (l : List UInt8) : (str l).size = l.length := by simp [str, ByteArray.size]
/-- Kept from simp. -/
def cat (a b : List UInt8) : List UInt8 := a ++ b
theorem cat_len (a b : List UInt8) : (cat a b).length = a.length + b.length := by simp [cat]
theorem addS (a b : List UInt8) (ha : a.length ≤ 8000000) (hb : b.length ≤ 8000000) (w : World) : (Op.stringOp .add (str a) (str b)).run Tryd.prog w = .ok (.string (str (cat a b))) w := by
  rw [run_string_add (P := Tryd.prog) (w := w) (str a) (str b) (by rw [str_size]; omega) (by rw [str_size]; omega), str_append]; rfl
theorem shown_len (c : Int) (l : Bool) : (Sp.shown c l).length ≤ 4 := by unfold Sp.shown; (repeat' split) <;> simp

structure ListedInv (f : Nat → Bool) (w : World) (n : Nat) (s c : Value) (wr : World) : Prop where
  upd : Upd [] w wr
  st : ∃ acc cc, s = .string (str acc) ∧ c = .int .i64 ((cc : Nat) : Int) ∧ Sp.listed f = acc ++ Sp.listedFrom f n cc ∧ 257 ≤ n + cc ∧ cc ≤ 256 ∧ acc.length ≤ 9 * cc
structure RunInv (f : Nat → Bool) (w : World) (c0 n : Nat) (last : Value) (wr : World) : Prop where
  world : wr = w
  st : ∃ cc, last = .int .i64 ((cc : Nat) : Int) ∧ Sp.runLast f 256 c0 = Sp.runLast f n cc ∧ 256 ≤ n + cc ∧ c0 ≤ cc ∧ cc ≤ 255

theorem runLast_zero (f : Nat → Bool) (n cc : Nat) (h : 256 ≤ n + cc) (hc : cc ≤ 255) : ∃ m, n = m + 1 := ⟨n - 1, by omega⟩

set_option maxRecDepth 100000 in
set_option maxHeartbeats 1000000 in
theorem listed_any (f : Nat → Bool) (c : Array Value) (hc : c.size = 256) (hf : ∀ i, i < 256 → c[i]? = some (.bool (f i))) (w : World) :
    Calls Tryd.prog 37 #[.agg c] w (StrOut (Sp.listed f) w) := by
  have hcell : ∀ i, i < 256 → (w.alloc (.cells c 75)).cell? ⟨w.heap.size, i, none⟩ = some (.bool (f i)) := fun i hi => by simp [hf i hi]
  have hsz : w.heap.size < (w.alloc (.cells c 75)).heap.size := by simp
  have HU0 : Hid (Upd [] w (w.alloc (.cells c 75))) := (Upd.refl _ _).alloc _
  go_enter Tryd.func37, Tryd.ntmps37
  go_wp2_with fail
  clear hf hc
  generalize hw1 : w.alloc (.cells c 75) = w1 at *
  clear hw1
  go_loopg [3, 4] 257 (fun gn s cv wr => ListedInv f w1 gn s cv wr)
  case atStart => exact ⟨Upd.refl _ _, [], 0, rfl, rfl, rfl, by omega, by omega, by simp⟩
  case round =>
    obtain ⟨hu, acc, cc, rfl, rfl, heq, hn, hcc, hal⟩ := hrel
    have hcr : ∀ i, i < 256 → wr.cell? ⟨w.heap.size, i, none⟩ = some (.bool (f i)) := fun i hi => by
      rw [World.cell?_of_block (w := w1) (hu.block w.heap.size hsz (by simp))]; exact hcell i hi
    clear hcell
    have HU : Hid (Upd [] w1 wr) := hu
    have HQ : Hid (Sp.listed f = acc ++ Sp.listedFrom f gk cc) := heq
    clear hu heq
    by_cases hlt : cc < 256
    · obtain ⟨fuel, rfl⟩ : ∃ n, gk = n + 1 := ⟨gk - 1, by omega⟩
      have hc1 := hcr cc hlt
      cases hfc : f cc
      case false =>
        have HN : Hid (Sp.listed f = acc ++ Sp.listedFrom f fuel (cc + 1)) := by show _ = _; rw [HQ.out, Sp.listedFrom, if_pos hlt, if_neg (by simp [hfc])]
        rw [hfc] at hc1
        clear hcr hfc
        go_wp2_with fail
        go_roundg fuel
        case measure => omega
        case rel => exact ⟨HU.out, acc, cc + 1, rfl, by go_num, HN.out, by omega, by omega, by omega⟩
      case true =>
        obtain ⟨last, hlast⟩ : ∃ l, Sp.runLast f 256 cc = l := ⟨_, rfl⟩
        have hl1 : cc ≤ last := by rw [← hlast]; exact Sp.runLast_ge f 256 cc
        have hl2 : last ≤ 255 := by rw [← hlast]; exact Sp.runLast_le f 256 cc (by omega)
        have HN : Hid (Sp.listed f = acc ++ (Sp.piece cc last ++ Sp.listedFrom f fuel (last + 1))) := by show _ = _; rw [HQ.out, Sp.listedFrom, if_pos hlt, if_pos hfc, hlast]
        have HL : Hid (Sp.runLast f 256 cc = last) := hlast
        rw [hfc] at hc1
        have HCR : Hid (∀ i, i < 256 → wr.cell? ⟨w.heap.size, i, none⟩ = some (.bool (f i))) := hcr
        clear hcr hfc hlast
        have hdec : decide ((cc : Int) < 256) = true := by simp; omega
        go_wp2_with fail
        go_loopg [5] 256 (fun gn lv wi => RunInv f wr cc gn lv wi)
        case atStart => exact ⟨rfl, cc, rfl, rfl, by omega, by omega, by omega⟩
        case round =>
          obtain ⟨hwi, lc, rfl, hrl, hgn, hlc0, hlc1⟩ := hrel
          subst hwi
          obtain ⟨fu2, rfl⟩ : ∃ n, gk = n + 1 := ⟨gk - 1, by omega⟩
          by_cases h255 : lc < 255
          · have hc2 := HCR.out (lc + 1) (by omega)
            cases hf2 : f (lc + 1)
            case true =>
              have HRL : Hid (Sp.runLast f 256 cc = Sp.runLast f fu2 (lc + 1)) := by show _ = _; rw [hrl, Sp.runLast, if_pos ⟨h255, hf2⟩]
              rw [hf2] at hc2
              clear hrl hf2
              go_wp2_with fail
              go_roundg fu2
              case measure => omega
              case rel => exact ⟨rfl, lc + 1, by go_num, HRL.out, by omega, by omega, by omega⟩
            case false =>
              have hle : lc = last := by rw [← HL.out, hrl, Sp.runLast, if_neg (by simp [hf2])]
              rw [hf2] at hc2
              clear hrl hf2
              have HN' : Hid (Sp.listed f = acc ++ (Sp.piece cc lc ++ Sp.listedFrom f fuel (lc + 1))) := by show _ = _; rw [hle]; exact HN.out
              clear hle HN HL HCR
              go_wp2_with fail
              refine (shown_any cc true _ (by omega) (by omega)).mono ?_
              rintro e w3 ⟨rfl, hu3⟩
              have HU3 : Hid (Upd [] w1 w3) := HU.out.trans hu3
              clear hu3
              go_wp2_with fail
              refine (shown_any lc true _ (by omega) (by omega)).mono ?_
              rintro e w4 ⟨rfl, hu4⟩
              have HU4 : Hid (Upd [] w1 w4) := HU3.out.trans hu4
              clear hu4
              have s1 := shown_len cc true
              have s2 := shown_len lc true
              have k1 := addS acc (Sp.shown cc true) (by omega) (by omega)
              have k2 := addS (cat acc (Sp.shown cc true)) (Sp.shown lc true) (by rw [cat_len]; omega) (by omega)
              have k3 : ∀ w, (Op.stringOp .add (str (cat acc (Sp.shown cc true))) ⟨#[45]⟩).run Tryd.prog w = .ok (.string (str (cat (cat acc (Sp.shown cc true)) [45]))) w := addS _ [45] (by rw [cat_len]; omega) (by simp)
              have k4 := addS (cat (cat acc (Sp.shown cc true)) [45]) (Sp.shown lc true) (by rw [cat_len, cat_len]; simp; omega) (by omega)
              by_cases hd0 : lc = cc
              · have hb0 : (((lc : Int) - (cc : Int)) == 0) = true := by simp; omega
                have HP : Hid (Sp.piece cc lc = Sp.shown cc true) := if_pos hd0
                clear hd0
                go_wp2_with fail
                go_roundg fuel
                case measure => omega
                case rel => exact ⟨HU4.out, acc ++ Sp.piece cc lc, lc + 1, by rw [HP.out]; rfl, by go_num, by rw [HN'.out, List.append_assoc], by omega, by omega, by rw [HP.out]; simp; omega⟩
              have hb0 : (((lc : Int) - (cc : Int)) == 0) = false := by simp; omega
              by_cases hd1 : lc = cc + 1
              · have hb1 : (((lc : Int) - (cc : Int)) == 1) = true := by simp; omega
                have HP : Hid (Sp.piece cc lc = Sp.shown cc true ++ Sp.shown lc true) := by show _ = _; unfold Sp.piece; rw [if_neg hd0, if_pos hd1]
                clear hd0 hd1
                go_wp2_with fail
                go_roundg fuel
                case measure => omega
                case rel => exact ⟨HU4.out, acc ++ Sp.piece cc lc, lc + 1, by rw [HP.out, ← List.append_assoc]; rfl, by go_num, by rw [HN'.out, List.append_assoc], by omega, by omega, by rw [HP.out]; simp; omega⟩
              have hb1 : (((lc : Int) - (cc : Int)) == 1) = false := by simp; omega
              have HP : Hid (Sp.piece cc lc = Sp.shown cc true ++ [45] ++ Sp.shown lc true) := by show _ = _; unfold Sp.piece; rw [if_neg hd0, if_neg hd1]
              clear hd0 hd1
              go_wp2_with fail
              go_roundg fuel
              case measure => omega
              case rel => exact ⟨HU4.out, acc ++ Sp.piece cc lc, lc + 1, by rw [HP.out, ← List.append_assoc, ← List.append_assoc]; rfl, by go_num, by rw [HN'.out, List.append_assoc], by omega, by omega, by rw [HP.out]; simp; omega⟩
          · have hle : lc = last := by rw [← HL.out, hrl, Sp.runLast, if_neg (by omega)]
            clear hrl
            have HN' : Hid (Sp.listed f = acc ++ (Sp.piece cc lc ++ Sp.listedFrom f fuel (lc + 1))) := by show _ = _; rw [hle]; exact HN.out
            clear hle HN HL HCR
            go_wp2_with fail
            refine (shown_any cc true _ (by omega) (by omega)).mono ?_
            rintro e w3 ⟨rfl, hu3⟩
            have HU3 : Hid (Upd [] w1 w3) := HU.out.trans hu3
            clear hu3
            go_wp2_with fail
            refine (shown_any lc true _ (by omega) (by omega)).mono ?_
            rintro e w4 ⟨rfl, hu4⟩
            have HU4 : Hid (Upd [] w1 w4) := HU3.out.trans hu4
            clear hu4
            have s1 := shown_len cc true
            have s2 := shown_len lc true
            have k1 := addS acc (Sp.shown cc true) (by omega) (by omega)
            have k2 := addS (cat acc (Sp.shown cc true)) (Sp.shown lc true) (by rw [cat_len]; omega) (by omega)
            have k3 : ∀ w, (Op.stringOp .add (str (cat acc (Sp.shown cc true))) ⟨#[45]⟩).run Tryd.prog w = .ok (.string (str (cat (cat acc (Sp.shown cc true)) [45]))) w := addS _ [45] (by rw [cat_len]; omega) (by simp)
            have k4 := addS (cat (cat acc (Sp.shown cc true)) [45]) (Sp.shown lc true) (by rw [cat_len, cat_len]; simp; omega) (by omega)
            by_cases hd0 : lc = cc
            · have hb0 : (((lc : Int) - (cc : Int)) == 0) = true := by simp; omega
              have HP : Hid (Sp.piece cc lc = Sp.shown cc true) := if_pos hd0
              clear hd0
              go_wp2_with fail
              go_roundg fuel
              case measure => omega
              case rel => exact ⟨HU4.out, acc ++ Sp.piece cc lc, lc + 1, by rw [HP.out]; rfl, by go_num, by rw [HN'.out, List.append_assoc], by omega, by omega, by rw [HP.out]; simp; omega⟩
            have hb0 : (((lc : Int) - (cc : Int)) == 0) = false := by simp; omega
            by_cases hd1 : lc = cc + 1
            · have hb1 : (((lc : Int) - (cc : Int)) == 1) = true := by simp; omega
              have HP : Hid (Sp.piece cc lc = Sp.shown cc true ++ Sp.shown lc true) := by show _ = _; unfold Sp.piece; rw [if_neg hd0, if_pos hd1]
              clear hd0 hd1
              go_wp2_with fail
              go_roundg fuel
              case measure => omega
              case rel => exact ⟨HU4.out, acc ++ Sp.piece cc lc, lc + 1, by rw [HP.out, ← List.append_assoc]; rfl, by go_num, by rw [HN'.out, List.append_assoc], by omega, by omega, by rw [HP.out]; simp; omega⟩
            have hb1 : (((lc : Int) - (cc : Int)) == 1) = false := by simp; omega
            have HP : Hid (Sp.piece cc lc = Sp.shown cc true ++ [45] ++ Sp.shown lc true) := by show _ = _; unfold Sp.piece; rw [if_neg hd0, if_neg hd1]
            clear hd0 hd1
            go_wp2_with fail
            go_roundg fuel
            case measure => omega
            case rel => exact ⟨HU4.out, acc ++ Sp.piece cc lc, lc + 1, by rw [HP.out, ← List.append_assoc, ← List.append_assoc]; rfl, by go_num, by rw [HN'.out, List.append_assoc], by omega, by omega, by rw [HP.out]; simp; omega⟩
    · have hcc' : cc = 256 := by omega
      subst hcc'
      have HN : Hid (Sp.listed f = acc) := by show _ = _; rw [HQ.out, Sp.listedFrom_out _ _ _ (by omega), List.append_nil]
      clear hcr
      go_wp2_with fail
      go_ret
      exact ⟨ret_str (by rw [HN.out]), HU0.out.trans HU.out⟩
end Go.Proofs.YtadmlifmcdnhnaaDoor
