import Derived.Test.YtcpfpnjkfahjcaaGreatH05
import Derived.Test.YtcpfpnjkfahjcaaGreatH06
import Derived.RegionTactic
import Derived.ChangeAlike
import Derived.Laws.Bits64b
set_option linter.unusedSimpArgs false
set_option linter.unusedVariables false
namespace Go.Proofs.YtcpfpnjkfahjcaaGreat
open Go.RowKit
def setCells (f:Nat→Bool):Array Value:=#[.int .u64 (word f 0 64),.int .u64 (word f 64 64),.int .u64 (word f 128 64),.int .u64 (word f 192 64)]
def SetAt (w:World) (p:Nat) (f:Nat→Bool):Prop:=w.heap[p]?=some (.cells (setCells f) 118 (0,0))
structure SetFacts (w:World) (p:Nat) (f:Nat→Bool):Prop where
 c0:w.cell? ⟨p,0,none⟩=some (.int .u64 (word f 0 64))
 c1:w.cell? ⟨p,1,none⟩=some (.int .u64 (word f 64 64))
 c2:w.cell? ⟨p,2,none⟩=some (.int .u64 (word f 128 64))
 c3:w.cell? ⟨p,3,none⟩=some (.int .u64 (word f 192 64))
 fz:∀ o,w.frozen? ⟨p,o,none⟩=false
theorem SetAt.facts {w:World} {p:Nat} {f:Nat→Bool} (h:SetAt w p f):SetFacts w p f:=by
 unfold SetAt setCells at h
 refine⟨?_,?_,?_,?_,?_⟩<;>(try intro o)<;>simp [World.cell?,World.frozen?,h]
theorem word_u64 (f:Nat→Bool) (b:Nat):((word f b 64:Nat):Int)≤18446744073709551615:=by
 have:=word_lt f b 64
 omega
theorem word_congr {f g:Nat→Bool} {b:Nat}:∀ {n:Nat},(∀ i,i < n→f (b+i)=g (b+i))→word f b n=word g b n
 | 0,_=>rfl
 | n+1,h=>by rw [word,word,h n (by omega),word_congr (n:=n) (fun i hi=>h i (by omega))]
theorem word_or (f g:Nat→Bool) (b i:Nat) (hi:i < 64) (hg:∀ c,g c=(f c || c == b+i)):word f b 64 ||| 2 ^ i=word g b 64:=by
 apply Nat.eq_of_testBit_eq
 intro m
 rw [Nat.testBit_or,Nat.testBit_two_pow]
 by_cases hm:m < 64
 ·rw [word_bit f b 64 m hm,word_bit g b 64 m hm,hg]
  by_cases e:i=m
  ·subst e;simp
  ·have:¬ (b+m=b+i):=by omega
   simp [e];omega
 ·have hp:(2:Nat) ^ 64≤2 ^ m:=Nat.pow_le_pow_right (by omega) (by omega)
  rw [Nat.testBit_lt_two_pow (Nat.lt_of_lt_of_le (word_lt f b 64) hp),Nat.testBit_lt_two_pow (Nat.lt_of_lt_of_le (word_lt g b 64) hp)]
  have:i≠m:=by omega
  simp [this]
theorem pow_u64 {i:Nat} (hi:i < 64):(2:Nat) ^ i < 18446744073709551616:=by
 have:(2:Nat) ^ i < 2 ^ 64:=Nat.pow_lt_pow_right (by omega) hi
 omega
theorem wrap_pow {i:Nat} (hi:i < 64):IntKind.u64.wrap (2 ^ i)=((2 ^ i:Nat):Int):=by
 have h:=pow_u64 hi
 have e:((2:Int) ^ i)=((2 ^ i:Nat):Int):=by simp
 rw [e]
 unfold IntKind.wrap
 rw [if_neg (by simp [IntKind.signed])]
 generalize (2:Nat) ^ i=n at h
 show (n:Int) % (2 ^ 64:Int)=_
 omega
theorem or_put (f g:Nat→Bool) (b i:Nat) (hi:i < 64) (hg:∀ c,g c=(f c || c == b+i)):bits BinOp.or IntKind.u64 ((word f b 64:Nat):Int) (IntKind.u64.wrap (2 ^ i))=((word g b 64:Nat):Int):=by
 rw [wrap_pow hi,bits_or_u64_nat _ _ (by have:=word_lt f b 64;omega) (pow_u64 hi),word_or f g b i hi hg]
theorem SetAt.put {w:World} {p:Nat} {F G:Nat→Bool} (h:SetAt w p F) (j i:Nat) (hj:j < 4) (hi:i < 64) (hG:∀ c,G c=(F c || c == 64 * j+i)) :
  SetAt (w.setCell ⟨p,j,none⟩ (.int .u64 (bits BinOp.or IntKind.u64 ((word F (64 * j) 64:Nat):Int) (IntKind.u64.wrap (2 ^ i))))) p G:=by
 rw [or_put F G (64 * j) i hi hG]
 have e:=heap_set h j (.int .u64 ((word G (64 * j) 64:Nat):Int))
 have hw:∀ b,(∀ m,m < 64→b+m≠64 * j+i)→word F b 64=word G b 64:=fun b hb=>word_congr (fun m hm=>by rw [hG];have:=hb m hm;simp [this])
 refine e.trans ?_
 congr 2
 unfold setCells
 rcases (by omega:j=0∨j=1∨j=2∨j=3) with rfl|rfl|rfl|rfl
 ·rw [hw 64 (by omega),hw 128 (by omega),hw 192 (by omega)];rfl
 ·rw [hw 0 (by omega),hw 128 (by omega),hw 192 (by omega)];rfl
 ·rw [hw 0 (by omega),hw 64 (by omega),hw 192 (by omega)];rfl
 ·rw [hw 0 (by omega),hw 64 (by omega),hw 128 (by omega)];rfl
theorem add_more (f:Nat→Bool) (a:Int) (cc:Nat) (h:a≤cc):∀ c,Sp.add f a (cc:Int) c=(Sp.add f a ((cc:Int) - 1) c || c == cc):=by
 intro c
 unfold Sp.add
 cases f c
 ·rw [Bool.eq_iff_iff];simp only [Bool.false_or,Bool.and_eq_true,Bool.or_eq_true,decide_eq_true_eq,beq_iff_eq];omega
 ·simp
theorem add_none (f:Nat→Bool) (a:Int):Sp.add f a (a - 1)=f:=by
 funext c
 unfold Sp.add
 cases f c
 ·rw [Bool.eq_iff_iff];simp only [Bool.false_or,Bool.and_eq_true,decide_eq_true_eq];simp;omega
 ·simp
structure AddInv (p:Nat) (f:Nat→Bool) (a b:Int) (w:World) (gn:Nat) (c:Value) (wi:World):Prop where
 st:∃ cc:Nat,c=.int .i64 cc∧(gn:Int)=b+1 - cc∧a≤cc∧(cc:Int)≤256∧Upd [p] w wi∧SetAt wi p (Sp.add f a ((cc:Int) - 1))
def PAddOut (p:Nat) (f:Nat→Bool) (a b:Int) (w:World) (e:Ending) (w':World):Prop:=e=.returned (.tuple #[])∧Upd [p] w w'∧SetAt w' p (Sp.add f a b)
set_option maxHeartbeats 1000000 in
theorem tAdd_any (p:Nat) (f:Nat→Bool) (a b:Int) (w:World) (h:SetAt w p f) (h0:0≤a) (h1:a≤b) (h2:b≤255) :
  Calls Tryz.prog 134 #[.pointer (some ⟨p,0,none⟩),.int .u8 a,.int .u8 b] w (PAddOut p f a b w):=by
 have HH:Hid (SetAt w p f):=h
 clear h
 go_enter Tryz.func134,Tryz.ntmps134
 go_wp2_with fail
 go_loopg [6] (b+1 - a).toNat (fun gn c wi=>AddInv p f a b w gn c wi)
 case atStart=>exact⟨a.toNat,int_eq (by omega),by omega,by omega,by omega,Upd.refl _ _,by rw [show ((a.toNat:Nat):Int)=a by omega,add_none];exact HH.out⟩
 case round=>
  obtain⟨cc,rfl,hgn,hac,hcc,hu,hs⟩:=hrel.st
  clear HH
  by_cases hlt:(cc:Int)≤b
  ·obtain⟨F,HF⟩:∃ F,Hid (F=Sp.add f a ((cc:Int) - 1)):=⟨Sp.add f a ((cc:Int) - 1),(rfl:Sp.add f a ((cc:Int) - 1)=_)⟩
   rw [← HF.out] at hs
   obtain⟨c0,c1,c2,c3,fz⟩:=hs.facts
   have HS:Hid (SetAt wr p F):=hs
   have HU:Hid (Upd [p] w wr):=hu
   have HM:Hid (∀ c,Sp.add f a (cc:Int) c=(F c || c == cc)):=by rw [HF.out];exact add_more f a cc hac
   clear hs hu HF
   have u0:=word_u64 F 0
   have u1:=word_u64 F 64
   have u2:=word_u64 F 128
   have u3:=word_u64 F 192
   go_wp2_with fail
   obtain⟨j,i,hj,hi,hij⟩:∃ j i,j < 4∧i < 64∧cc=64 * j+i:=⟨cc / 64,cc % 64,by omega,by omega,by omega⟩
   have hq:Int.tdiv (cc:Int) 64=(j:Int):=by rw [Int.tdiv_eq_ediv_of_nonneg (by omega)];omega
   have hr:Int.tmod (cc:Int) 64=(i:Int):=by rw [Int.tmod_eq_emod_of_nonneg (by omega)];omega
   have HIJ:Hid (cc=64 * j+i):=hij
   clear hij
   rcases (by omega:j=0∨j=1∨j=2∨j=3) with rfl|rfl|rfl|rfl
   all_goals
    go_region
    go_wp2_with fail
    go_roundg (gk - 1)
    case measure=>omega
    case rel=>
     refine⟨cc+1,int_eq (by omega),by omega,by omega,by omega,(HU.out.setCell (by simp) _).drew,?_⟩
     rw [show ((cc+1:Nat):Int) - 1=cc by omega]
     first
      | exact HS.out.put 0 i (by omega) hi (fun c=>by rw [HM.out c,← HIJ.out])
      | exact HS.out.put 1 i (by omega) hi (fun c=>by rw [HM.out c,← HIJ.out])
      | exact HS.out.put 2 i (by omega) hi (fun c=>by rw [HM.out c,← HIJ.out])
      | exact HS.out.put 3 i (by omega) hi (fun c=>by rw [HM.out c,← HIJ.out])
  ·have HU:Hid (Upd [p] w wr):=hu
   have HS:Hid (SetAt wr p (Sp.add f a b)):=by rw [show ((cc:Nat):Int) - 1=b by omega] at hs;exact hs
   clear hs hu
   go_wp2_with fail
   go_end0
   exact⟨rfl,HU.out,HS.out⟩
structure SetIn (w:World) (p o:Nat) (f:Nat→Bool):Prop where
 c0:w.cell? ⟨p,o,none⟩=some (.int .u64 (word f 0 64))
 c1:w.cell? ⟨p,o+1,none⟩=some (.int .u64 (word f 64 64))
 c2:w.cell? ⟨p,o+2,none⟩=some (.int .u64 (word f 128 64))
 c3:w.cell? ⟨p,o+3,none⟩=some (.int .u64 (word f 192 64))
theorem bit_is (f:Nat→Bool) (b i:Nat) (hi:i < 64):(bits BinOp.and IntKind.u64 ((word f b 64:Nat) / 2 ^ i:Nat) 1 == 1)=f (b+i):=by
 have h:=word_lt f b 64
 have h2:word f b 64 / 2 ^ i < 18446744073709551616:=Nat.lt_of_le_of_lt (Nat.div_le_self _ _) (by omega)
 rw [show (1:Int)=((1:Nat):Int) from rfl,bits_and_u64_nat _ _ h2 (by omega)]
 rw [Nat.and_one_is_mod]
 have e:=word_bit f b 64 i hi
 rw [Nat.testBit_eq_decide_div_mod_eq] at e
 rw [← e,Bool.eq_iff_iff]
 simp only [beq_iff_eq,decide_eq_true_eq]
 omega
theorem bit_int (f:Nat→Bool) (b i c:Nat) (hi:i < 64) (hc:c=b+i):(bits BinOp.and IntKind.u64 (((word f b 64:Nat):Int) / 2 ^ i) 1 == 1)=f c:=by
 rw [hc,← bit_is f b i hi]
 congr 2
set_option maxHeartbeats 400000 in
theorem tHas_any (p o:Nat) (f:Nat→Bool) (c:Nat) (w:World) (h:SetIn w p o f) (hc:c < 256) :
  Calls Tryz.prog 92 #[.pointer (some ⟨p,o,none⟩),.int .u8 c] w fun e w'=>e=.returned (.bool (f c))∧w'=w:=by
 obtain⟨c0,c1,c2,c3⟩:=h
 obtain⟨j,i,hj,hi,hij⟩:∃ j i,j < 4∧i < 64∧c=64 * j+i:=⟨c / 64,c % 64,by omega,by omega,by omega⟩
 have HIJ:Hid (c=64 * j+i):=hij
 have hq:Int.tdiv (c:Int) 64=(j:Int):=by rw [Int.tdiv_eq_ediv_of_nonneg (by omega)];omega
 have hr:Int.tmod (c:Int) 64=(i:Int):=by rw [Int.tmod_eq_emod_of_nonneg (by omega)];omega
 clear hij
 rcases (by omega:j=0∨j=1∨j=2∨j=3) with rfl|rfl|rfl|rfl
 all_goals
  go_enter Tryz.func92,Tryz.ntmps92
  go_wp2
  go_ret
  exact⟨ret_bool (bit_int f _ i c hi (by rw [HIJ.out])),rfl⟩
theorem PdAt.upd {l:List Nat} {w w':World} {r:Nat} {s:ByteArray} {x:RS} (h:PdAt w r s x) (u:Upd l w w') (hr:r∉l):PdAt w' r s x:=by
 unfold PdAt at *;rw [u.block r (lt_of_heap h) hr];exact h
theorem PdAt.alloc {w:World} {r:Nat} {s:ByteArray} {x:RS} (h:PdAt w r s x) (o:Obj):PdAt (w.alloc o) r s x:=by
 unfold PdAt at *;rw [Below.heap_alloc _ _ _ (lt_of_heap h)];exact h
theorem SetAt.upd {l:List Nat} {w w':World} {p:Nat} {f:Nat→Bool} (h:SetAt w p f) (u:Upd l w w') (hp:p∉l):SetAt w' p f:=by
 unfold SetAt at *;rw [u.block p (lt_of_heap h) hp];exact h
theorem word_none (b:Nat):∀ n,word (fun _=>false) b n=0
 | 0=>rfl
 | n+1=>by rw [word,word_none b n];rfl
theorem SetAt.new {w:World} {p:Nat} {c:Array Value} (hc:c=#[.int .u64 0,.int .u64 0,.int .u64 0,.int .u64 0]) (hp:p=w.heap.size):SetAt (w.alloc (.cells c 118)) p (fun _=>false):=by
 subst hp hc;unfold SetAt setCells
 rw [word_none,word_none,word_none,word_none]
 show (w.heap.push _)[w.heap.size]?=_;simp
theorem item_bd {s:ByteArray} {i j:Nat} {a b:Int} (h:Sp.item s i=.ok (a,b,j)):0≤a∧a≤b∧b≤255:=by
 unfold Sp.item at h
 cases h1:Sp.byteBut true s i with
 | error f=>rw [h1] at h;cases h
 | ok p=>
  obtain⟨a1,j1⟩:=p
  rw [h1] at h
  have b1:=byteBut_ok h1
  simp only at h
  split at h
  ·cases h2:Sp.byteBut true s (j1+1) with
   | error f=>rw [h2] at h;cases h
   | ok p=>
    obtain⟨a2,j2⟩:=p
    rw [h2] at h
    have b2:=byteBut_ok h2
    simp only at h
    split at h
    ·cases h
    ·cases h;omega
  ·cases h;omega
theorem NodesAt.leaf {w:World} {S:Nat→Prop} {p:Nat} {a:Lab} (hm:a.min < 0) (hk:a.kind≤2) (hS:S p) (h:TnAt w p (tnOf a 1 (.slice none 0 0))):NodesAt w S [p] [⟨a,[]⟩]:=by
 rw [NodesAt_cons]
 refine⟨⟨p,.slice none 0 0,[],Or.inl ⟨hm,rfl⟩,hS,?_,World.ownsRow_nil _ _ _ _,by intro g hg;simp [Value.ownBlock] at hg,NodesAt_nil _ _⟩,NodesAt_nil _ _⟩
 rw [psz_leaf (t:=bareOf ⟨a,[]⟩) (by simp [bareOf]) hk rfl];exact h
def lLab (set:Nat→Bool) (b:Bool):Lab:={ Sp.blank with kind:=2,set:=set,not:=b }
structure PListInv (r p:Nat) (s:ByteArray) (x:RS) (j0:Nat) (w:World) (n:Nat) (wr:World):Prop where
 upd:Upd [r] w wr
 st:∃ set i,PdAt wr r s ⟨i,x.e,x.a,x.d,x.t⟩∧SetAt wr p set∧Sp.items s (s.size+1) (fun _=>false) j0=Sp.items s n set i∧s.size+1≤n+i∧i≤s.size
theorem list_is {s:ByteArray} {x:RS} {b:Bool} {j0:Nat} (hb:Sp.isAt s x.i 94=b) (hj:j0=if b then x.i+1 else x.i) :
  listR s x=match Sp.items s (s.size+1) (fun _=>false) j0 with | .error f=>.error f | .ok (set,k)=>.ok (⟨lLab set b,[]⟩,⟨k,x.t⟩):=by
 unfold listR Sp.list
 subst hb hj
 simp only
 cases Sp.items s (s.size+1) (fun _=>false) (if Sp.isAt s x.i 94=true then x.i+1 else x.i) with
 | error f=>rfl
 | ok p=>rfl
set_option maxHeartbeats 1000000 in
theorem pList_any (r:Nat) (s:ByteArray) (x:RS) (w:World) (h:PdAt w r s x) (hi:x.i≤s.size) (hs:s.size≤200) :
  Calls Tryz.prog 124 #[.pointer (some ⟨r,0,none⟩)] w (PNodeOut r s x w (listR s x)):=by
 have hr:=lt_of_heap h
 have hh:Hid (PdAt w r s x):=h
 obtain⟨b,HB⟩:∃ b,Hid (Sp.isAt s x.i 94=b):=⟨_,(rfl:Sp.isAt s x.i 94=_)⟩
 obtain⟨j0,HJ⟩:∃ j0,Hid (j0=if b then x.i+1 else x.i):=⟨_,(rfl:(if b then x.i+1 else x.i)=_)⟩
 have hj0:j0≤s.size:=by
  rw [HJ.out];cases hb:b with
  | true=>have:=Sp.isAt_lt (HB.out.trans hb);simp;omega
  | false=>simpa using hi
 have HL:=list_is HB.out HJ.out
 have HL':Hid (listR s x=match Sp.items s (s.size+1) (fun _=>false) j0 with | .error f=>.error f | .ok (set,k)=>.ok (⟨lLab set b,[]⟩,⟨k,x.t⟩)):=HL
 clear h HL
 go_enter Tryz.func124,Tryz.ntmps124
 go_wp2_with fail
 refine (pTake_any r s x _ _ (by exact hh.out) hi hs).mono ?_
 rintro e w1 ⟨rfl,hu1,hf1⟩
 rw [show Sp.isAt s x.i 94=b from HB.out] at hf1 ⊢
 have HF1:Hid (PdAt w1 r s ⟨j0,x.e,x.a,x.d,x.t⟩):=by
  show PdAt _ _ _ _;rw [HJ.out];cases b<;>exact hf1
 have HU1:Hid (Upd [r] w w1):=hu1
 have hsz:=hu1.size
 clear hf1 hu1 hh
 go_wp2_with fail
 go_loopg [] (s.size+1) (fun gn wr=>PListInv r w1.heap.size s x j0 w gn wr)
 case atStart=>exact⟨HU1.out.alloc _,fun _=>false,j0,HF1.out.alloc _,SetAt.new rfl rfl,rfl,by omega,hj0⟩
 case round=>
  obtain⟨hu,set,i,hf,hset,heq,hgn,hi⟩:=hrel
  clear HF1 HU1
  have HF:Hid (PdAt wr r s ⟨i,x.e,x.a,x.d,x.t⟩):=hf
  have HS:Hid (SetAt wr w1.heap.size set):=hset
  have HU:Hid (Upd [r] w wr):=hu
  obtain⟨fuel,rfl⟩:∃ n,gk=n+1:=⟨gk - 1,by omega⟩
  have HQ:Hid (Sp.items s (s.size+1) (fun _=>false) j0=Sp.items s (fuel+1) set i):=heq
  have hrp:r≠w1.heap.size:=by omega
  clear hf hset hu heq
  cases h1:Sp.item s i with
  | error p=>
   obtain⟨e1,a1⟩:=p
   have H1:Hid (Sp.item s i=.error (e1,a1)):=h1
   have HR:Hid (listR s x=.error (e1,a1)):=by show _=_;rw [HL'.out,HQ.out,items_succ,h1]
   clear h1
   go_wp2_with fail
   refine (pItem_any r s ⟨i,x.e,x.a,x.d,x.t⟩ _ (by exact HF.out) hi hs).mono ?_
   rw [show Sp.item s _=_ from H1.out]
   rintro e w2 ⟨hu2,m,n,i',rfl,hf2⟩
   go_wp2_with fail
   go_ret2
   exact PNodeOut.mk_error _ _ i' x.t HR.out (HU.out.trans hu2) rfl hf2
  | ok p=>
   obtain⟨a,bb,j⟩:=p
   have H1:Hid (Sp.item s i=.ok (a,bb,j)):=h1
   obtain⟨hij,hj⟩:=Sp.item_in h1
   obtain⟨ha0,hab,hb2⟩:=item_bd h1
   have HQ2:Hid (Sp.items s (s.size+1) (fun _=>false) j0=after s fuel (Sp.add set a bb) j):=by show _=_;rw [HQ.out,items_succ,h1]
   clear h1
   go_wp2_with fail
   refine (pItem_any r s ⟨i,x.e,x.a,x.d,x.t⟩ _ (by exact HF.out) hi hs).mono ?_
   rw [show Sp.item s _=_ from H1.out]
   rintro e w2 ⟨hu2,rfl,hf2⟩
   have HU2:Hid (Upd [r] w w2):=HU.out.trans hu2
   have HS2:Hid (SetAt w2 w1.heap.size set):=HS.out.upd hu2 (by simpa using hrp.symm)
   have HF2:Hid (PdAt w2 r s ⟨j,x.e,x.a,x.d,x.t⟩):=hf2
   clear hu2 hf2
   go_wp2_with fail
   refine (tAdd_any w1.heap.size set a bb _ (by exact HS2.out) ha0 hab hb2).mono ?_
   rintro e w3 ⟨rfl,hu3,hs3⟩
   have HU3:Hid (Upd [r] w w3):=HU2.out.shrink hu3 (fun q hq=>by right;simp at hq;omega)
   have HS3:Hid (SetAt w3 w1.heap.size (Sp.add set a bb)):=hs3
   have HF3:Hid (PdAt w3 r s ⟨j,x.e,x.a,x.d,x.t⟩):=HF2.out.upd hu3 (by simpa using hrp)
   clear hu3 hs3
   cases h2:Sp.isAt s j 93 with
   | true=>
    have H2:Hid (Sp.isAt s j 93=true):=h2
    have HR:Hid (listR s x=.ok (⟨lLab (Sp.add set a bb) b,[]⟩,⟨j+1,x.t⟩)):=by show _=_;rw [HL'.out,HQ2.out];unfold after;rw [h2];rfl
    clear h2
    go_wp2_with fail
    refine (pTake_yes r s ⟨j,x.e,x.a,x.d,x.t⟩ _ _ (by exact HF3.out) hs H2.out).mono ?_
    rintro e w4 ⟨rfl,hu4,hf4⟩
    have HU4:Hid (Upd [r] w w4):=HU3.out.trans hu4
    have HF4:Hid (PdAt w4 r s ⟨j+1,x.e,x.a,x.d,x.t⟩):=hf4
    have HS4:Hid (SetAt w4 w1.heap.size (Sp.add set a bb)):=HS3.out.upd hu4 (by simpa using hrp.symm)
    obtain⟨c0,c1,c2,c3,fz⟩:=HS4.out.facts
    clear hu4 hf4
    go_wp2_with fail
    refine (tList_any _ _ _ _ b _).mono ?_
    rintro e w5 ⟨p,rfl,hp,hu5,ht5⟩
    go_wp2_with fail
    go_ret2
    exact PNodeOut.mk_ok _ _ p HR.out (HU4.out.shrink hu5 (by simp)) rfl (NodesAt.leaf (by simp [lLab,Sp.blank]) (by simp [lLab]) (by have:=HU4.out.size;omega) (by simpa [tnOf,kindP,wordP,lLab] using ht5)) (HF4.out.upd hu5 (by simp))
   | false=>
    have H2:Hid (Sp.isAt s j 93=false):=h2
    have HR:Hid (Sp.items s (s.size+1) (fun _=>false) j0=Sp.items s fuel (Sp.add set a bb) j):=by show _=_;rw [HQ2.out];unfold after;rw [h2];rfl
    clear h2
    go_wp2_with fail
    refine (pTake_no r s ⟨j,x.e,x.a,x.d,x.t⟩ _ _ (by exact HF3.out) hj hs H2.out).mono ?_
    rintro e w4 ⟨rfl,hu4,hf4⟩
    have HU4:Hid (Upd [r] w w4):=HU3.out.trans hu4
    have HF4:Hid (PdAt w4 r s ⟨j,x.e,x.a,x.d,x.t⟩):=hf4
    have HS4:Hid (SetAt w4 w1.heap.size (Sp.add set a bb)):=HS3.out.upd hu4 (by simpa using hrp.symm)
    clear hu4 hf4
    go_wp2_with fail
    go_roundg fuel
    case measure=>omega
    case rel=>exact⟨HU4.out,_,j,HF4.out,HS4.out,HR.out,by omega,hj⟩
def PHeadOut (r:Nat) (s:ByteArray) (x:RS) (w:World) (res:Sp.Res (Nat×Sp.At)) (k:Ending) (w':World):Prop:=
 Upd [r] w w'∧match res with
 | .ok (n,y)=>k=.returned (.tuple #[.int .i64 n,.bool true])∧PdAt w' r s { x with i:=y.i,t:=y.t }
 | .error (e,a)=>∃ v i' t',k=.returned (.tuple #[.int .i64 v,.bool false])∧PdAt w' r s ⟨i',e,a,x.d,t'⟩
theorem PHeadOut.mk_ok {r:Nat} {s:ByteArray} {x:RS} {w w':World} {res:Sp.Res (Nat×Sp.At)} {k:Ending} (n:Nat) (y:Sp.At) (h:res=.ok (n,y)) (u:Upd [r] w w') (hk:k=.returned (.tuple #[.int .i64 n,.bool true])) (hr:PdAt w' r s { x with i:=y.i,t:=y.t }):PHeadOut r s x w res k w':=by
 subst h;exact⟨u,hk,hr⟩
theorem PHeadOut.mk_error {r:Nat} {s:ByteArray} {x:RS} {w w':World} {res:Sp.Res (Nat×Sp.At)} {k:Ending} (e a v:Int) (i':Nat) (t':Int) (h:res=.error (e,a)) (u:Upd [r] w w') (hk:k=.returned (.tuple #[.int .i64 v,.bool false])) (hr:PdAt w' r s ⟨i',e,a,x.d,t'⟩):PHeadOut r s x w res k w':=by
 subst h;exact⟨u,v,i',t',hk,hr⟩
theorem head_deep {s:ByteArray} {d:Nat} {x:Sp.At} (h:8≤d):Sp.head s d x=.error (5,x.i):=by unfold Sp.head;rw [if_pos h]
theorem head_q {s:ByteArray} {d:Nat} {i:Nat} {t:Int} (h:¬ 8≤d) (h1:Sp.isAt s (i+1) 63=true):Sp.head s d ⟨i,t⟩=if Sp.isAt s (i+2) 58 then .ok (0,⟨i+2+1,t⟩) else .error (3,(i+2:Nat)):=by
 unfold Sp.head;rw [if_neg h,if_pos h1];unfold Sp.need;cases Sp.isAt s (i+2) 58<;>rfl
theorem head_many {s:ByteArray} {d:Nat} {i:Nat} {t:Int} (h:¬ 8≤d) (h1:Sp.isAt s (i+1) 63=false) (h2:9≤t):Sp.head s d ⟨i,t⟩=.error (6,i):=by
 unfold Sp.head;rw [if_neg h,if_neg (by rw [h1];simp),if_pos h2]
theorem head_told {s:ByteArray} {d:Nat} {i:Nat} {t:Int} (h:¬ 8≤d) (h1:Sp.isAt s (i+1) 63=false) (h2:¬ 9≤t):Sp.head s d ⟨i,t⟩=.ok ((t+1).toNat,⟨i+1,t+1⟩):=by
 unfold Sp.head;rw [if_neg h,if_neg (by rw [h1];simp),if_neg h2]
set_option maxHeartbeats 800000 in
theorem pGroupHead_any (r:Nat) (s:ByteArray) (i0:Nat) (e0 a0:Int) (d:Nat) (t:Int) (w:World) (h:PdAt w r s ⟨i0,e0,a0,d,t⟩) (hi:i0 < s.size) (hs:s.size≤200) (hd:d≤8) (ht0:0≤t) (ht9:t≤9) :
  Calls Tryz.prog 131 #[.pointer (some ⟨r,0,none⟩)] w (PHeadOut r s ⟨i0,e0,a0,d,t⟩ w (Sp.head s d ⟨i0,t⟩)):=by
 obtain⟨c0,c1,c2,c3,c4,c5,fz⟩:=h.facts
 have hh:Hid (PdAt w r s ⟨i0,e0,a0,d,t⟩):=h
 clear h
 by_cases hd8:8≤d
 ·have HR:Hid (Sp.head s d ⟨i0,t⟩=.error (5,i0)):=head_deep hd8
  have hd8':(8:Int)≤d:=by omega
  go_enter Tryz.func131,Tryz.ntmps131
  go_wp2_with fail
  refine (pRefuse_any r s ⟨i0,e0,a0,d,t⟩ _ _ _ (by exact hh.out)).mono ?_
  rintro e w1 ⟨rfl,hu,hf⟩
  go_wp2_with fail
  go_ret2
  exact PHeadOut.mk_error _ _ 0 i0 t HR.out hu rfl hf
 ·have hd8':¬ (8:Int)≤d:=by omega
  have HF0:Hid (PdAt (w.setCell ⟨r,1,none⟩ (.int .i64 ((i0+1:Nat):Int))) r s ⟨i0+1,e0,a0,d,t⟩):=hh.out.set1 (i0+1)
  cases h1:Sp.isAt s (i0+1) 63 with
  | true=>
   have H1:Hid (Sp.isAt s (i0+1) 63=true):=h1
   have hi2:=Sp.isAt_lt h1
   have HR:Hid (Sp.head s d ⟨i0,t⟩=if Sp.isAt s (i0+2) 58 then .ok (0,⟨i0+2+1,t⟩) else .error (3,(i0+2:Nat))):=head_q hd8 h1
   clear h1
   go_enter Tryz.func131,Tryz.ntmps131
   go_wp2_with fail
   refine (pTake_yes r s ⟨i0+1,e0,a0,d,t⟩ _ _ (by exact HF0.out) hs H1.out).mono ?_
   rintro e w1 ⟨rfl,hu,hf⟩
   have HU1:Hid (Upd [r] w w1):=(by refine Upd.trans ?_ hu;(repeat (first|exact Upd.refl _ _|refine Upd.drewN ?_|refine Upd.drew ?_|refine Upd.setCell ?_ (by simp) _|refine Upd.alloc ?_ _)):Upd [r] w w1)
   have HF1:Hid (PdAt w1 r s ⟨i0+2,e0,a0,d,t⟩):=hf
   clear hu hf
   go_wp2_with fail
   refine (pNeed_any r s ⟨i0+2,e0,a0,d,t⟩ _ _ (by exact HF1.out) (by exact hi2) hs).mono ?_
   rintro e w2 ⟨rfl,hu2,hf2⟩
   cases h2:Sp.isAt s (i0+2) 58 with
   | true=>
    rw [show Sp.isAt s _ 58=true from h2] at hf2
    have HR':Hid (Sp.head s d ⟨i0,t⟩=.ok (0,⟨i0+2+1,t⟩)):=by show _=_;rw [HR.out,h2];rfl
    clear h2
    go_wp2_with fail
    go_ret2
    exact PHeadOut.mk_ok 0 _ HR'.out (HU1.out.trans hu2) rfl hf2
   | false=>
    rw [show Sp.isAt s _ 58=false from h2] at hf2
    have HR':Hid (Sp.head s d ⟨i0,t⟩=.error (3,(i0+2:Nat))):=by show _=_;rw [HR.out,h2];rfl
    clear h2
    go_wp2_with fail
    go_ret2
    exact PHeadOut.mk_error _ _ 0 (i0+2) t HR'.out (HU1.out.trans hu2) rfl hf2
  | false=>
   have H1:Hid (Sp.isAt s (i0+1) 63=false):=h1
   clear h1
   by_cases h9:9≤t
   ·have HR:Hid (Sp.head s d ⟨i0,t⟩=.error (6,i0)):=head_many hd8 H1.out h9
    go_enter Tryz.func131,Tryz.ntmps131
    go_wp2_with fail
    refine (pTake_no r s ⟨i0+1,e0,a0,d,t⟩ _ _ (by exact HF0.out) (by exact hi) hs H1.out).mono ?_
    rintro e w1 ⟨rfl,hu,hf⟩
    have HU1:Hid (Upd [r] w w1):=(by refine Upd.trans ?_ hu;(repeat (first|exact Upd.refl _ _|refine Upd.drewN ?_|refine Upd.drew ?_|refine Upd.setCell ?_ (by simp) _|refine Upd.alloc ?_ _)):Upd [r] w w1)
    have HF1:Hid (PdAt w1 r s ⟨i0+1,e0,a0,d,t⟩):=hf
    obtain⟨d0,d1,d2,d3,d4,d5,dz⟩:=HF1.out.facts
    clear hu hf c0 c1 c2 c3 c4 c5 fz
    go_wp2_with fail
    refine (pRefuse_any r s ⟨i0+1,e0,a0,d,t⟩ _ _ _ (by exact HF1.out)).mono ?_
    rintro e w2 ⟨rfl,hu2,hf2⟩
    go_wp2_with fail
    go_ret2
    exact PHeadOut.mk_error _ _ 0 (i0+1) t HR.out (HU1.out.trans hu2) rfl hf2
   ·have HR:Hid (Sp.head s d ⟨i0,t⟩=.ok ((t+1).toNat,⟨i0+1,t+1⟩)):=head_told hd8 H1.out h9
    go_enter Tryz.func131,Tryz.ntmps131
    go_wp2_with fail
    refine (pTake_no r s ⟨i0+1,e0,a0,d,t⟩ _ _ (by exact HF0.out) (by exact hi) hs H1.out).mono ?_
    rintro e w1 ⟨rfl,hu,hf⟩
    have HU1:Hid (Upd [r] w w1):=(by refine Upd.trans ?_ hu;(repeat (first|exact Upd.refl _ _|refine Upd.drewN ?_|refine Upd.drew ?_|refine Upd.setCell ?_ (by simp) _|refine Upd.alloc ?_ _)):Upd [r] w w1)
    have HF1:Hid (PdAt w1 r s ⟨i0+1,e0,a0,d,t⟩):=hf
    obtain⟨d0,d1,d2,d3,d4,d5,dz⟩:=HF1.out.facts
    clear hu hf c0 c1 c2 c3 c4 c5 fz
    go_wp2_with fail
    go_ret2
    exact PHeadOut.mk_ok _ _ HR.out (HU1.out.setCell (by simp) _) (tup2 (int_eq (by omega)) rfl) (HF1.out.set3 (t+1))
def PChoiceC (k:Nat):Prop:=∀ (r:Nat) (s:ByteArray) (x:RS) (w:World),PdAt w r s x→s.size≤200→x.i≤s.size→x.d=9 - (k:Int)→0≤x.t→x.t≤9→
 Calls Tryz.prog 60 #[.pointer (some ⟨r,0,none⟩)] w (PNodeOut r s x w (Sp.choice s k ⟨x.i,x.t⟩))
theorem NodesAt.over {w:World} {S:Nat→Prop} {p c n:Nat} {t:Tr} {l:Value} {a:Lab} (ha:a={ Sp.blank with kind:=3,told:=decide (n≠0),num:=n }) (h:TnAt w p { kind:=3,size:=max (psz t) 1,parts:=l,byte:=0,s0:=0,s1:=0,s2:=0,s3:=0,not:=false,num:=n,least:=0,most:=0 })
  (ho:w.ownsRow 0 67 1 l 1 [ptr c]) (hl:∀ g,l.ownBlock=some g→S g) (hS:S p) (hc:NodesAt w S [c] [t]):NodesAt w S [p] [⟨a,[t]⟩]:=by
 subst ha
 rw [NodesAt_cons]
 refine⟨⟨p,l,[c],Or.inl ⟨by simp [Sp.blank],rfl⟩,hS,?_,ho,hl,hc⟩,NodesAt_nil _ _⟩
 rw [psz_group (t:=bareOf _) (by simp [bareOf]) rfl]
 show TnAt w p (tnOf _ (max (pszs [t]) 1) l)
 rw [pszs_one];exact h
theorem group_1 {sub:Sp.At→Sp.Res (Tr×Sp.At)} {s:ByteArray} {d:Nat} {x:Sp.At} {f:Sp.Fault} (h:Sp.head s d x=.error f):Sp.group sub s d x=.error f:=by unfold Sp.group;rw [h]
theorem group_2 {sub:Sp.At→Sp.Res (Tr×Sp.At)} {s:ByteArray} {d n:Nat} {x y:Sp.At} {f:Sp.Fault} (h:Sp.head s d x=.ok (n,y)) (h2:sub y=.error f):Sp.group sub s d x=.error f:=by unfold Sp.group;rw [h];simp only [h2]
theorem group_3 {sub:Sp.At→Sp.Res (Tr×Sp.At)} {s:ByteArray} {d n:Nat} {x y z:Sp.At} {t:Tr} (h:Sp.head s d x=.ok (n,y)) (h2:sub y=.ok (t,z)):Sp.group sub s d x=if Sp.isAt s z.i 41 then .ok (⟨{ Sp.blank with kind:=3,told:=decide (n≠0),num:=n },[t]⟩,⟨z.i+1,z.t⟩) else .error (3,z.i):=by
 unfold Sp.group;rw [h];simp only [h2,Sp.need];cases Sp.isAt s z.i 41<;>rfl
set_option maxHeartbeats 1000000 in
theorem pGroup_any (r:Nat) (s:ByteArray) (i0:Nat) (e0 a0:Int) (d:Nat) (t:Int) (w:World) (h:PdAt w r s ⟨i0,e0,a0,d,t⟩) (hi:i0 < s.size) (hs:s.size≤200) (hd:d≤8) (ht0:0≤t) (ht9:t≤9) (k:Nat) (hsub:d < 8→PChoiceC k) (hk:(d:Int)=8 - (k:Int)) :
  Calls Tryz.prog 123 #[.pointer (some ⟨r,0,none⟩)] w (PNodeOut r s ⟨i0,e0,a0,d,t⟩ w (Sp.group (Sp.choice s k) s d ⟨i0,t⟩)):=by
 have hr:=lt_of_heap h
 have hh:Hid (PdAt w r s ⟨i0,e0,a0,d,t⟩):=h
 have HK:Hid ((d:Int)=8 - (k:Int)):=hk
 have HSUB:Hid (d < 8→PChoiceC k):=hsub
 clear h hk hsub
 cases h1:Sp.head s d ⟨i0,t⟩ with
 | error p=>
  obtain⟨e1,a1⟩:=p
  have H1:Hid (Sp.head s d ⟨i0,t⟩=.error (e1,a1)):=h1
  clear h1
  go_enter Tryz.func123,Tryz.ntmps123
  go_wp2_with fail
  refine (pGroupHead_any r s i0 e0 a0 d t _ (by exact hh.out) hi hs hd ht0 ht9).mono ?_
  rw [H1.out]
  rintro e w1 ⟨hu,v,i',t',rfl,hf⟩
  go_wp2_with fail
  go_ret2
  exact PNodeOut.mk_error _ _ i' t' (group_1 H1.out) hu rfl hf
 | ok p=>
  obtain⟨n,y⟩:=p
  have H1:Hid (Sp.head s d ⟨i0,t⟩=.ok (n,y)):=h1
  have hd8:d < 8:=by
   rcases Nat.lt_or_ge d 8 with q|q
   ·exact q
   ·rw [head_deep q] at h1;cases h1
  obtain⟨hy1,hy2,hy3,hy4⟩:=Sp.head_ok h1 (by exact hi) ht0 ht9
  clear h1
  go_enter Tryz.func123,Tryz.ntmps123
  go_wp2_with fail
  refine (pGroupHead_any r s i0 e0 a0 d t _ (by exact hh.out) hi hs hd ht0 ht9).mono ?_
  rw [H1.out]
  rintro e w1 ⟨hu,rfl,hf⟩
  have HU1:Hid (Upd [r] w w1):=hu
  have HF1:Hid (PdAt w1 r s ⟨y.i,e0,a0,d,y.t⟩):=hf
  obtain⟨c0,c1,c2,c3,c4,c5,fz⟩:=HF1.out.facts
  clear hu hf
  have HF2:Hid (PdAt (w1.setCell ⟨r,2,none⟩ (.int .i64 ((d:Int)+1))) r s ⟨y.i,e0,a0,(d:Int)+1,y.t⟩):=HF1.out.set2 ((d:Int)+1)
  go_wp2_with fail
  refine (HSUB.out hd8 r s ⟨y.i,e0,a0,(d:Int)+1,y.t⟩ _ (by exact HF2.out) hs (by exact hy2) (by have:=HK.out;show (d:Int)+1=_;omega) hy3 hy4).mono ?_
  rintro e w3 ⟨hu3,hq3⟩
  have HU3:Hid (Upd [r] w w3):=(HU1.out.setCell (by simp) _).trans hu3
  have hw3:w.heap.size≤w3.heap.size:=HU3.out.size
  have HB3:Hid (Upd [r] (w1.setCell ⟨r,2,none⟩ (.int .i64 ((d:Int)+1))) w3):=hu3
  clear hu3 c0 c1 c2 c3 c4 c5 fz
  revert hq3
  cases h2:Sp.choice s k ⟨y.i,y.t⟩ with
  | error p=>
   obtain⟨e1,a1⟩:=p
   rintro ⟨i',t',rfl,hf3⟩
   have HF3:Hid (PdAt w3 r s ⟨i',e1,a1,(d:Int)+1,t'⟩):=hf3
   have HR:Hid (Sp.group (Sp.choice s k) s d ⟨i0,t⟩=.error (e1,a1)):=group_2 H1.out h2
   obtain⟨c0,c1,c2,c3,c4,c5,fz⟩:=HF3.out.facts
   clear hf3 h2
   go_wp2_with fail
   go_ret2
   exact PNodeOut.mk_error _ _ i' t' HR.out (HU3.out.setCell (by simp) _) rfl (HF3.out.set2 d)
  | ok p=>
   obtain⟨tr,z⟩:=p
   rintro ⟨c,rfl,hn3,hf3⟩
   have HF3:Hid (PdAt w3 r s ⟨z.i,e0,a0,(d:Int)+1,z.t⟩):=hf3
   have HN3:Hid (NodesAt w3 (fun k=>w.heap.size≤k) [c] [tr]):=NodesAt.mono _ _ hn3 (fun k hk _=>by have:w.heap.size≤w1.heap.size:=HU1.out.size;simp at hk;omega)
   have HR:Hid (Sp.group (Sp.choice s k) s d ⟨i0,t⟩=if Sp.isAt s z.i 41 then .ok (⟨{ Sp.blank with kind:=3,told:=decide (n≠0),num:=n },[tr]⟩,⟨z.i+1,z.t⟩) else .error (3,z.i)):=group_3 H1.out h2
   obtain⟨hz1,hz2,hz3,hz4⟩:=Sp.choice_good s k _ _ _ h2 hy2 hy3 hy4
   obtain⟨c0,c1,c2,c3,c4,c5,fz⟩:=HF3.out.facts
   clear hf3 h2 hn3
   have HF4:Hid (PdAt (w3.setCell ⟨r,2,none⟩ (.int .i64 d)) r s ⟨z.i,e0,a0,d,z.t⟩):=HF3.out.set2 d
   unfold ptr
   go_wp2_with fail
   refine (pNeed_any r s ⟨z.i,e0,a0,d,z.t⟩ _ _ (by exact HF4.out) (by exact hz2) hs).mono ?_
   rintro e w4 ⟨rfl,hu4,hf4⟩
   have HU4:Hid (Upd [r] w w4):=(HU3.out.setCell (by simp) _).trans hu4
   have HV4:Hid (Upd [r] w3 w4):=((Upd.refl [r] w3).setCell (by simp) _).trans hu4
   clear hu4
   cases h3:Sp.isAt s z.i 41 with
   | false=>
    rw [show Sp.isAt s _ 41=false from h3] at hf4
    have HR':Hid (Sp.group (Sp.choice s k) s d ⟨i0,t⟩=.error (3,z.i)):=by show _=_;rw [HR.out,h3];rfl
    clear h3
    go_wp2_with fail
    go_ret2
    exact PNodeOut.mk_error _ _ z.i z.t HR'.out HU4.out rfl hf4
   | true=>
    rw [show Sp.isAt s _ 41=true from h3] at hf4
    have HR':Hid (Sp.group (Sp.choice s k) s d ⟨i0,t⟩=.ok (⟨{ Sp.blank with kind:=3,told:=decide (n≠0),num:=n },[tr]⟩,⟨z.i+1,z.t⟩)):=by show _=_;rw [HR.out,h3];rfl
    have HF5:Hid (PdAt w4 r s ⟨z.i+1,e0,a0,d,z.t⟩):=hf4
    have HN4:Hid (NodesAt w4 (fun k=>w.heap.size≤k) [c] [tr]):=HN3.out.upd HV4.out (fun k hk=>by simp at hk;omega)
    have hsz:=nodePsz HN4.out
    clear h3 hf4
    go_wp2_with fail
    refine (tGroup_any _ c (psz tr) _ (by exact hsz) (psz_nn tr) (psz_le tr)).mono ?_
    rintro e w5 ⟨p,l,rfl,hp,hu5,ht5,ho5,hl5⟩
    have hsz4:=HU4.out.size
    go_wp2_with fail
    go_ret2
    exact PNodeOut.mk_ok _ _ p HR'.out (HU4.out.shrink hu5 (by simp)) rfl (NodesAt.over rfl ht5 ho5 (fun g hg=>by have:=hl5 g hg;omega) (by omega) (HN4.out.upd hu5 (by simp))) (HF5.out.upd hu5 (by simp))
theorem pNext_is (r:Nat) (s:ByteArray) (x:RS) (b:Int) (v:Bool) (w:World) (h:PdAt w r s x) (hi:x.i≤s.size) (hv:Sp.isAt s x.i b=v) :
  Calls Tryz.prog 103 #[.pointer (some ⟨r,0,none⟩),.int .u8 b] w fun e w'=>e=.returned (.bool v)∧∃ n,w'=w.drewN n:=
 (pNext_any r s x b w h hi).mono fun e w' q=>⟨by rw [q.1,hv],q.2⟩
theorem atom_1 {sub:Sp.At→Sp.Res (Tr×Sp.At)} {s:ByteArray} {d:Nat} {x:Sp.At} (h:Sp.isAt s x.i 40=true):Sp.atom sub s d x=Sp.group sub s d x:=by unfold Sp.atom;rw [if_pos h]
theorem atom_2 {sub:Sp.At→Sp.Res (Tr×Sp.At)} {s:ByteArray} {d i:Nat} {t:Int} (h:Sp.isAt s i 40=false) (h1:Sp.isAt s i 91=true):Sp.atom sub s d ⟨i,t⟩=match Sp.list s (i+1) with | .error f=>.error f | .ok (tr,j)=>.ok (tr,⟨j,t⟩):=by
 unfold Sp.atom;rw [if_neg (by rw [h];simp),if_pos h1];simp only;cases Sp.list s (i+1) with
 | error f=>rfl
 | ok p=>rfl
theorem atom_3 {sub:Sp.At→Sp.Res (Tr×Sp.At)} {s:ByteArray} {d i:Nat} {t:Int} (h:Sp.isAt s i 40=false) (h1:Sp.isAt s i 91=false) (h2:Sp.isAt s i 46=true):Sp.atom sub s d ⟨i,t⟩=.ok (⟨{ Sp.blank with kind:=1,set:=fun c=>c == 10,not:=true },[]⟩,⟨i+1,t⟩):=by
 unfold Sp.atom;rw [if_neg (by rw [h];simp),if_neg (by rw [h1];simp),if_pos h2]
theorem atom_4 {sub:Sp.At→Sp.Res (Tr×Sp.At)} {s:ByteArray} {d i:Nat} {t:Int} (h:Sp.isAt s i 40=false) (h1:Sp.isAt s i 91=false) (h2:Sp.isAt s i 46=false):Sp.atom sub s d ⟨i,t⟩=match Sp.byteBut false s i with | .error f=>.error f | .ok (b,j)=>.ok (⟨bLab b,[]⟩,⟨j,t⟩):=by
 unfold Sp.atom;rw [if_neg (by rw [h];simp),if_neg (by rw [h1];simp),if_neg (by rw [h2];simp)];rfl
set_option maxHeartbeats 1000000 in
theorem pAtom_any (r:Nat) (s:ByteArray) (i0:Nat) (e0 a0:Int) (d:Nat) (t:Int) (w:World) (h:PdAt w r s ⟨i0,e0,a0,d,t⟩) (hi:i0≤s.size) (hs:s.size≤200) (hd:d≤8) (ht0:0≤t) (ht9:t≤9) (k:Nat) (hsub:d < 8→PChoiceC k) (hk:(d:Int)=8 - (k:Int)) :
  Calls Tryz.prog 116 #[.pointer (some ⟨r,0,none⟩)] w (PNodeOut r s ⟨i0,e0,a0,d,t⟩ w (Sp.atom (Sp.choice s k) s d ⟨i0,t⟩)):=by
 have hr:=lt_of_heap h
 have hh:Hid (PdAt w r s ⟨i0,e0,a0,d,t⟩):=h
 have HK:Hid ((d:Int)=8 - (k:Int)):=hk
 have HSUB:Hid (d < 8→PChoiceC k):=hsub
 clear h hk hsub
 cases h1:Sp.isAt s i0 40 with
 | true=>
  have H1:Hid (Sp.isAt s i0 40=true):=h1
  have hlt:=Sp.isAt_lt h1
  have HR:Hid (Sp.atom (Sp.choice s k) s d ⟨i0,t⟩=Sp.group (Sp.choice s k) s d ⟨i0,t⟩):=atom_1 (by exact h1)
  clear h1
  go_enter Tryz.func116,Tryz.ntmps116
  go_wp2_with fail
  refine (pNext_is r s ⟨i0,e0,a0,d,t⟩ _ true _ (by exact hh.out) hi H1.out).mono ?_
  rintro e w1 ⟨rfl,n1,rfl⟩
  go_wp2_with fail
  refine (pGroup_any r s i0 e0 a0 d t _ (by exact hh.out.drewN n1) hlt hs hd ht0 ht9 k HSUB.out HK.out).mono ?_
  rintro e w2 ⟨hu,hq⟩
  have HU:Hid (Upd [r] w w2):=((drewN_upd _ _ _).trans hu:Upd [r] w w2)
  clear hu
  revert hq
  cases h2:Sp.group (Sp.choice s k) s d ⟨i0,t⟩ with
  | ok p=>
   obtain⟨tr,y⟩:=p
   rintro ⟨p,rfl,hn,hf⟩
   have HR':Hid (Sp.atom (Sp.choice s k) s d ⟨i0,t⟩=.ok (tr,y)):=HR.out.trans h2
   clear h2
   unfold ptr
   go_wp2_with fail
   go_ret2
   exact PNodeOut.mk_ok _ _ p HR'.out HU.out rfl hn hf
  | error p=>
   obtain⟨e1,a1⟩:=p
   rintro ⟨i',t',rfl,hf⟩
   have HR':Hid (Sp.atom (Sp.choice s k) s d ⟨i0,t⟩=.error (e1,a1)):=HR.out.trans h2
   clear h2
   go_wp2_with fail
   go_ret2
   exact PNodeOut.mk_error _ _ i' t' HR'.out HU.out rfl hf
 | false=>
  have H1:Hid (Sp.isAt s i0 40=false):=h1
  clear h1
  cases h2:Sp.isAt s i0 91 with
  | true=>
   have H2:Hid (Sp.isAt s i0 91=true):=h2
   have hlt:=Sp.isAt_lt h2
   have HR:Hid (Sp.atom (Sp.choice s k) s d ⟨i0,t⟩=listR s ⟨i0+1,e0,a0,d,t⟩):=atom_2 H1.out h2
   clear h2
   go_enter Tryz.func116,Tryz.ntmps116
   go_wp2_with fail
   refine (pNext_is r s ⟨i0,e0,a0,d,t⟩ _ false _ (by exact hh.out) hi H1.out).mono ?_
   rintro e w1 ⟨rfl,n1,rfl⟩
   go_wp2_with fail
   refine (pTake_yes r s ⟨i0,e0,a0,d,t⟩ _ _ (by exact hh.out.drewN n1) hs H2.out).mono ?_
   rintro e w2 ⟨rfl,hu2,hf2⟩
   have HU2:Hid (Upd [r] w w2):=((drewN_upd _ _ _).trans hu2:Upd [r] w w2)
   have hsz2:=HU2.out.size
   clear hu2
   go_wp2_with fail
   refine (pList_any r s ⟨i0+1,e0,a0,d,t⟩ _ (by exact hf2) (by exact hlt) hs).mono ?_
   rintro e w3 ⟨hu3,hq⟩
   have HU3:Hid (Upd [r] w w3):=HU2.out.trans hu3
   clear hu3 hf2
   revert hq
   cases h3:listR s ⟨i0+1,e0,a0,d,t⟩ with
   | ok p=>
    obtain⟨tr,y⟩:=p
    rintro ⟨p,rfl,hn,hf⟩
    have HR':Hid (Sp.atom (Sp.choice s k) s d ⟨i0,t⟩=.ok (tr,y)):=HR.out.trans h3
    clear h3
    unfold ptr
    go_wp2_with fail
    go_ret2
    exact PNodeOut.mk_ok _ _ p HR'.out HU3.out rfl (NodesAt.mono _ _ hn (fun k hk _=>by have hk':w2.heap.size≤k:=hk;omega)) hf
   | error p=>
    obtain⟨e1,a1⟩:=p
    rintro ⟨i',t',rfl,hf⟩
    have HR':Hid (Sp.atom (Sp.choice s k) s d ⟨i0,t⟩=.error (e1,a1)):=HR.out.trans h3
    clear h3
    go_wp2_with fail
    go_ret2
    exact PNodeOut.mk_error _ _ i' t' HR'.out HU3.out rfl hf
  | false=>
   have H2:Hid (Sp.isAt s i0 91=false):=h2
   clear h2
   cases h3:Sp.isAt s i0 46 with
   | true=>
    have H3:Hid (Sp.isAt s i0 46=true):=h3
    have HR:Hid (Sp.atom (Sp.choice s k) s d ⟨i0,t⟩=.ok (⟨{ Sp.blank with kind:=1,set:=fun c=>c == 10,not:=true },[]⟩,⟨i0+1,t⟩)):=atom_3 H1.out H2.out h3
    clear h3
    go_enter Tryz.func116,Tryz.ntmps116
    go_wp2_with fail
    refine (pNext_is r s ⟨i0,e0,a0,d,t⟩ _ false _ (by exact hh.out) hi H1.out).mono ?_
    rintro e w1 ⟨rfl,n1,rfl⟩
    go_wp2_with fail
    refine (pTake_no r s ⟨i0,e0,a0,d,t⟩ _ _ (by exact hh.out.drewN n1) hi hs H2.out).mono ?_
    rintro e w2 ⟨rfl,hu2,hf2⟩
    have HU2:Hid (Upd [r] w w2):=((drewN_upd _ _ _).trans hu2:Upd [r] w w2)
    clear hu2
    go_wp2_with fail
    refine (pTake_yes r s ⟨i0,e0,a0,d,t⟩ _ _ (by exact hf2) hs H3.out).mono ?_
    rintro e w3 ⟨rfl,hu3,hf3⟩
    have HU3:Hid (Upd [r] w w3):=HU2.out.trans hu3
    have hsz3:=HU3.out.size
    have HF3:Hid (PdAt w3 r s ⟨i0+1,e0,a0,d,t⟩):=hf3
    clear hu3 hf2 hf3
    go_wp2_with fail
    refine (tAny_any _).mono ?_
    rintro e w4 ⟨p,rfl,hp,hu4,ht4⟩
    go_wp2_with fail
    go_ret2
    exact PNodeOut.mk_ok _ _ p HR.out (HU3.out.shrink hu4 (by simp)) rfl (NodesAt.leaf (by simp [Sp.blank]) (by simp) (by omega) (by simpa [tnOf,kindP,wordP] using ht4)) (HF3.out.upd hu4 (by simp))
   | false=>
    have H3:Hid (Sp.isAt s i0 46=false):=h3
    have HR:Hid (Sp.atom (Sp.choice s k) s d ⟨i0,t⟩=match Sp.byteBut false s i0 with | .error f=>.error f | .ok (b,j)=>.ok (⟨bLab b,[]⟩,⟨j,t⟩)):=atom_4 H1.out H2.out h3
    clear h3
    go_enter Tryz.func116,Tryz.ntmps116
    go_wp2_with fail
    refine (pNext_is r s ⟨i0,e0,a0,d,t⟩ _ false _ (by exact hh.out) hi H1.out).mono ?_
    rintro e w1 ⟨rfl,n1,rfl⟩
    go_wp2_with fail
    refine (pTake_no r s ⟨i0,e0,a0,d,t⟩ _ _ (by exact hh.out.drewN n1) hi hs H2.out).mono ?_
    rintro e w2 ⟨rfl,hu2,hf2⟩
    have HU2:Hid (Upd [r] w w2):=((drewN_upd _ _ _).trans hu2:Upd [r] w w2)
    clear hu2
    go_wp2_with fail
    refine (pTake_no r s ⟨i0,e0,a0,d,t⟩ _ _ (by exact hf2) hi hs H3.out).mono ?_
    rintro e w3 ⟨rfl,hu3,hf3⟩
    have HU3:Hid (Upd [r] w w3):=HU2.out.trans hu3
    have HF3:Hid (PdAt w3 r s ⟨i0,e0,a0,d,t⟩):=hf3
    clear hu3 hf2 hf3
    go_wp2_with fail
    refine (pByteBut_any false r s ⟨i0,e0,a0,d,t⟩ _ (by exact HF3.out) hi hs).mono ?_
    rintro e w4 ⟨hu4,hq⟩
    have HU4:Hid (Upd [r] w w4):=HU3.out.trans hu4
    have hsz4:=HU4.out.size
    clear hu4
    revert hq
    cases h4:Sp.byteBut false s i0 with
    | ok p=>
     obtain⟨b,j⟩:=p
     rintro ⟨rfl,hf⟩
     have HR':Hid (Sp.atom (Sp.choice s k) s d ⟨i0,t⟩=.ok (⟨bLab b,[]⟩,⟨j,t⟩)):=by show _=_;rw [HR.out,h4]
     obtain⟨hb0,hb1,_,_⟩:=byteBut_ok h4
     have HF4:Hid (PdAt w4 r s ⟨j,e0,a0,d,t⟩):=hf
     clear h4 hf
     go_wp2_with fail
     refine (tByte_any b _).mono ?_
     rintro e w5 ⟨p,rfl,hp,hu5,ht5⟩
     go_wp2_with fail
     go_ret2
     exact PNodeOut.mk_ok _ _ p HR'.out (HU4.out.shrink hu5 (by simp)) rfl (NodesAt.leaf (by simp [bLab,Sp.blank]) (by simp [bLab]) (by omega) (by simpa [tnOf,kindP,wordP,bLab,show ((b.toNat:Nat):Int)=b by omega,hb0] using ht5)) (HF4.out.upd hu5 (by simp))
    | error p=>
     obtain⟨e1,a1⟩:=p
     rintro ⟨v,i',rfl,hf⟩
     have HR':Hid (Sp.atom (Sp.choice s k) s d ⟨i0,t⟩=.error (e1,a1)):=by show _=_;rw [HR.out,h4]
     clear h4
     go_wp2_with fail
     go_ret2
     exact PNodeOut.mk_error _ _ i' t HR'.out HU4.out rfl hf
end Go.Proofs.YtcpfpnjkfahjcaaGreat
