import Derived.Test.YtcpfpnjkfahjcaaGreatH07
import Derived.Test.YtcpfpnjkfahjcaaGreatH01
set_option linter.unusedSimpArgs false
set_option linter.unusedVariables false
namespace Go.Proofs.YtcpfpnjkfahjcaaGreat
open Go.RowKit
def plCells (f:Nat→Bool):Array Value:=#[.int .u64 (word f 0 64),.int .u64 (word f 64 64)]
def PlAt (w:World) (p:Nat) (f:Nat→Bool):Prop:=w.heap[p]?=some (.cells (plCells f) 137 (0,0))
structure PlFacts (w:World) (p:Nat) (f:Nat→Bool):Prop where
 c0:w.cell? ⟨p,0,none⟩=some (.int .u64 (word f 0 64))
 c1:w.cell? ⟨p,1,none⟩=some (.int .u64 (word f 64 64))
 fz:∀ o,w.frozen? ⟨p,o,none⟩=false
theorem PlAt.facts {w:World} {p:Nat} {f:Nat→Bool} (h:PlAt w p f):PlFacts w p f:=by
 unfold PlAt plCells at h
 refine⟨?_,?_,?_⟩<;>(try intro o)<;>simp [World.cell?,World.frozen?,h]
theorem plBit_is (f:Nat→Bool) (b i:Nat) (hi:i < 64):(bits BinOp.and IntKind.u64 ((word f b 64:Nat) / 2 ^ i:Nat) 1 == 1)=f (b+i):=by
 have h:=word_lt f b 64
 have h2:word f b 64 / 2 ^ i < 18446744073709551616:=Nat.lt_of_le_of_lt (Nat.div_le_self _ _) (by omega)
 rw [show (1:Int)=((1:Nat):Int) from rfl,bits_and_u64_nat _ _ h2 (by omega)]
 rw [Nat.and_one_is_mod]
 have e:=word_bit f b 64 i hi
 rw [Nat.testBit_eq_decide_div_mod_eq] at e
 rw [← e,Bool.eq_iff_iff]
 simp only [beq_iff_eq,decide_eq_true_eq]
 omega
theorem plBit (f:Nat→Bool) (b i c:Nat) (hi:i < 64) (hc:c=b+i):(bits BinOp.and IntKind.u64 (((word f b 64:Nat):Int) / 2 ^ i) 1 == 1)=f c:=by
 rw [hc,← plBit_is f b i hi]
 congr 2
set_option maxHeartbeats 400000 in
theorem mHas_any (p:Nat) (f:Nat→Bool) (c:Nat) (w:World) (h:PlAt w p f) (hc:c < 128) :
  Calls Tryz.prog 52 #[.pointer (some ⟨p,0,none⟩),.int .i64 c] w fun e w'=>e=.returned (.bool (f c))∧w'=w:=by
 obtain⟨c0,c1,fz⟩:=h.facts
 obtain⟨j,i,hj,hi,hij⟩:∃ j i,j < 2∧i < 64∧c=64 * j+i:=⟨c / 64,c % 64,by omega,by omega,by omega⟩
 have HIJ:Hid (c=64 * j+i):=hij
 have hq:Int.tdiv (c:Int) 64=(j:Int):=by rw [Int.tdiv_eq_ediv_of_nonneg (by omega)];omega
 have hr:Int.tmod (c:Int) 64=(i:Int):=by rw [Int.tmod_eq_emod_of_nonneg (by omega)];omega
 clear hij h
 rcases (by omega:j=0∨j=1) with rfl|rfl
 all_goals
  go_enter Tryz.func52,Tryz.ntmps52
  go_wp2
  go_ret
  exact⟨ret_bool (plBit f _ i c hi (by rw [HIJ.out])),rfl⟩
theorem PlAt.put {w:World} {p:Nat} {F G:Nat→Bool} (h:PlAt w p F) (j i:Nat) (hj:j < 2) (hi:i < 64) (hG:∀ c,G c=(F c || c == 64 * j+i)) :
  PlAt (w.setCell ⟨p,j,none⟩ (.int .u64 (bits BinOp.or IntKind.u64 ((word F (64 * j) 64:Nat):Int) (IntKind.u64.wrap (2 ^ i))))) p G:=by
 rw [or_put F G (64 * j) i hi hG]
 have e:=heap_set h j (.int .u64 ((word G (64 * j) 64:Nat):Int))
 have hw:∀ b,(∀ m,m < 64→b+m≠64 * j+i)→word F b 64=word G b 64:=fun b hb=>word_congr (fun m hm=>by rw [hG];have:=hb m hm;simp [this])
 refine e.trans ?_
 congr 2
 unfold plCells
 rcases (by omega:j=0∨j=1) with rfl|rfl
 ·rw [hw 64 (by omega)];rfl
 ·rw [hw 0 (by omega)];rfl
def PlOut (p:Nat) (g:Nat→Bool) (w:World) (e:Ending) (w':World):Prop:=e=.returned (.tuple #[])∧Upd [p] w w'∧PlAt w' p g
set_option maxHeartbeats 800000 in
theorem mAdd_any (p:Nat) (f:Nat→Bool) (c:Nat) (w:World) (h:PlAt w p f) (hc:c < 128) :
  Calls Tryz.prog 94 #[.pointer (some ⟨p,0,none⟩),.int .i64 c] w (PlOut p (fun x=>f x || x == c) w):=by
 obtain⟨c0,c1,fz⟩:=h.facts
 have HH:Hid (PlAt w p f):=h
 obtain⟨j,i,hj,hi,hij⟩:∃ j i,j < 2∧i < 64∧c=64 * j+i:=⟨c / 64,c % 64,by omega,by omega,by omega⟩
 have HIJ:Hid (c=64 * j+i):=hij
 have hq:Int.tdiv (c:Int) 64=(j:Int):=by rw [Int.tdiv_eq_ediv_of_nonneg (by omega)];omega
 have hr:Int.tmod (c:Int) 64=(i:Int):=by rw [Int.tmod_eq_emod_of_nonneg (by omega)];omega
 have u0:=word_u64 f 0
 have u1:=word_u64 f 64
 clear hij h
 rcases (by omega:j=0∨j=1) with rfl|rfl
 all_goals
  go_enter Tryz.func94,Tryz.ntmps94
  go_wp2_with fail
  go_region
  go_wp2_with fail
  go_end0
  refine⟨rfl,((Upd.refl [p] w).setCell (by simp) _).drew,?_⟩
  first
   | exact HH.out.put 0 i (by omega) hi (fun c'=>by show (f c' || c' == c)=_;rw [HIJ.out])
   | exact HH.out.put 1 i (by omega) hi (fun c'=>by show (f c' || c' == c)=_;rw [HIJ.out])
theorem word_orw (f g:Nat→Bool) (b:Nat):word f b 64 ||| word g b 64=word (fun c=>f c || g c) b 64:=by
 apply Nat.eq_of_testBit_eq
 intro m
 rw [Nat.testBit_or]
 by_cases hm:m < 64
 ·rw [word_bit f b 64 m hm,word_bit g b 64 m hm,word_bit _ b 64 m hm]
 ·have hp:(2:Nat) ^ 64≤2 ^ m:=Nat.pow_le_pow_right (by omega) (by omega)
  rw [Nat.testBit_lt_two_pow (Nat.lt_of_lt_of_le (word_lt f b 64) hp),Nat.testBit_lt_two_pow (Nat.lt_of_lt_of_le (word_lt g b 64) hp),Nat.testBit_lt_two_pow (Nat.lt_of_lt_of_le (word_lt _ b 64) hp)]
  rfl
theorem orw_is (f g:Nat→Bool) (b:Nat):bits BinOp.or IntKind.u64 ((word f b 64:Nat):Int) ((word g b 64:Nat):Int)=((word (fun c=>f c || g c) b 64:Nat):Int):=by
 rw [bits_or_u64_nat _ _ (by have:=word_lt f b 64;omega) (by have:=word_lt g b 64;omega),word_orw]
theorem PlAt.alloc {w:World} {p:Nat} {f:Nat→Bool} (h:PlAt w p f) (o:Obj):PlAt (w.alloc o) p f:=by
 unfold PlAt at *;rw [Below.heap_alloc _ _ _ (lt_of_heap h)];exact h
theorem PlAt.both {w:World} {p:Nat} {f g:Nat→Bool} {o:Obj} (h:PlAt w p f) :
  PlAt (((w.setCell ⟨p,0,none⟩ (.int .u64 (bits BinOp.or IntKind.u64 ((word f 0 64:Nat):Int) ((word g 0 64:Nat):Int)))).setCell ⟨p,1,none⟩ (.int .u64 (bits BinOp.or IntKind.u64 ((word f 64 64:Nat):Int) ((word g 64 64:Nat):Int)))).alloc o) p (fun x=>f x || g x):=by
 refine PlAt.alloc ?_ o
 rw [orw_is,orw_is]
 exact heap_set (heap_set h 0 _) 1 _
def plV (f:Nat→Bool):Value:=.agg (plCells f)
set_option maxHeartbeats 800000 in
theorem mAddAll_any (p:Nat) (f g:Nat→Bool) (w:World) (h:PlAt w p f) :
  Calls Tryz.prog 95 #[.pointer (some ⟨p,0,none⟩),plV g] w (PlOut p (fun x=>f x || g x) w):=by
 unfold plV plCells
 obtain⟨c0,c1,fz⟩:=h.facts
 have HH:Hid (PlAt w p f):=h
 have hp:=lt_of_heap h
 clear h
 go_enter Tryz.func95,Tryz.ntmps95
 go_wp2_with fail
 refine wp_loop_rounds 3 ?_
 rw [rounds_succ]
 go_wp2_with fail
 go_region
 go_wp2_with fail
 rw [rounds_succ]
 go_wp2_with fail
 go_region
 go_wp2_with fail
 rw [rounds_succ]
 go_wp2_with fail
 go_end0
 refine⟨rfl,by (repeat (first|exact Upd.refl _ _|refine Upd.drewN ?_|refine Upd.drew ?_|refine Upd.setCell ?_ (by simp) _|refine Upd.alloc ?_ _)),?_⟩
 exact PlAt.both HH.out
end Go.Proofs.YtcpfpnjkfahjcaaGreat
