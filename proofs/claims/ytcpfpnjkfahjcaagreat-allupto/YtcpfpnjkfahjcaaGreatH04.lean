import Derived.Test.YtcpfpnjkfahjcaaGreatH03
import Derived.Test.YtcpfpnjkfahjcaaGreatH01
set_option linter.unusedSimpArgs false
set_option linter.unusedVariables false
namespace Go.Proofs.YtcpfpnjkfahjcaaGreat
open Go.RowKit
namespace Sp
theorem mul_nn {a b:Int} (h:0≤a) (k:0≤b):0≤a * b:=Int.mul_nonneg h k
theorem sz1_nn {a:Lab} {n:Int} (h:0≤n):0≤sz1 a n:=by
 have h1:0≤(if a.kind=3 then max n 1 else n):=by split<;>omega
 unfold sz1
 split
 ·exact h1
 ·split
  ·have:=mul_nn h1 (by omega:(0:Int)≤max a.min 1);omega
  ·have:=mul_nn h1 (by omega:(0:Int)≤a.max);omega
theorem szB_nn (a:Lab):0≤szB a:=by unfold szB;split<;>omega
theorem sizes_nn:∀ (l:List Tr) (acc:Int),0≤acc→0≤sizes acc l
 | [],acc,h=>by rw [sizes];exact h
 | ⟨a,ks⟩::r,acc,h=>by
  rw [sizes]
  have:=sz1_nn (a:=a) (sizes_nn ks (szB a) (szB_nn a))
  exact sizes_nn r _ (by omega)
theorem size_nn (t:Tr):0≤size t:=sz1_nn (sizes_nn _ _ (szB_nn _))
end Sp
def bareOf (t:Tr):Tr:=⟨{ t.lab with min:=-1 },t.kids⟩
def psz (t:Tr):Int:=min (Sp.size t) 61
theorem psz_nn (t:Tr):0≤psz t:=by have:=Sp.size_nn t;unfold psz;omega
theorem psz_le (t:Tr):psz t≤61:=by unfold psz;omega
def pszs (ts:List Tr):Int:=min (Sp.sizes 0 ts) 61
theorem pszs_nil:pszs []=0:=by unfold pszs;rw [Sp.sizes];rfl
theorem pszs_snoc (ts:List Tr) (t:Tr):pszs (ts++[t])=min (pszs ts+psz t) 61:=by
 have h1:=Sp.size_nn t
 have h2:=Sp.sizes_nn ts 0 (by omega)
 unfold pszs psz;rw [Sp.sizes_snoc];omega
theorem pszs_one (t:Tr):pszs [t]=psz t:=by
 have h1:=Sp.size_nn t
 have:pszs [t]=_:=pszs_snoc [] t
 rw [this,pszs_nil];unfold psz;omega
theorem pszs_bd (ts:List Tr):0≤pszs ts∧pszs ts≤61:=by
 have h2:=Sp.sizes_nn ts 0 (by omega)
 unfold pszs;omega
theorem psz_kids {t:Tr} (hm:t.lab.min < 0) (hk:3 < t.lab.kind):psz t=pszs t.kids:=by
 unfold psz pszs Sp.size Sp.sz1 Sp.szB
 rw [if_pos hm,if_neg (by omega),if_neg (by omega)]
theorem psz_group {t:Tr} (hm:t.lab.min < 0) (hk:t.lab.kind=3):psz t=max (pszs t.kids) 1:=by
 unfold psz pszs Sp.size Sp.sz1 Sp.szB
 rw [if_pos hm,if_pos hk,if_neg (by omega)];omega
theorem psz_leaf {t:Tr} (hm:t.lab.min < 0) (hk:t.lab.kind≤2) (hn:t.kids=[]):psz t=1:=by
 unfold psz Sp.size Sp.sz1 Sp.szB
 rw [if_pos hm,if_neg (by omega),if_pos hk,hn,Sp.sizes];rfl
theorem sat_mul {b n:Int} (hb:0≤b) (hn:0≤n):min (min b 61 * n) 61=min (min (b * n) 1000000) 61:=by
 rcases Int.lt_or_le b 61 with h|h
 ·rw [show min b 61=b by omega];omega
 ·rw [show min b 61=61 by omega]
  rcases (by omega:n=0∨1≤n) with rfl|h1
  ·rw [Int.mul_zero,Int.mul_zero];omega
  ·have:61 * 1≤b * n:=Int.mul_le_mul h h1 (by omega) (by omega)
   omega
theorem psz_turns {t:Tr} {m n:Int} (ht:t.lab.min < 0) (hm:0≤m):psz ⟨{ t.lab with min:=m,max:=n },t.kids⟩=min (psz t * (if n < 0 then max m 1 else n)) 61:=by
 have h0:=Sp.size_nn t
 have e:Sp.size t=(if t.lab.kind=3 then max (Sp.sizes (Sp.szB t.lab) t.kids) 1 else Sp.sizes (Sp.szB t.lab) t.kids):=by
  unfold Sp.size Sp.sz1;rw [if_pos ht]
 unfold psz
 rw [sat_mul h0 (by split<;>omega),e]
 unfold Sp.size Sp.sz1
 show min (if m < 0 then _ else if n < 0 then _ else _) 61=_
 rw [if_neg (by omega)]
 split<;>rfl
def word (f:Nat→Bool) (b:Nat):Nat→Nat
 | 0=>0
 | n+1=>(if f (b+n) then 2 ^ n else 0)+word f b n
theorem word_lt (f:Nat→Bool) (b:Nat):∀ n,word f b n < 2 ^ n
 | 0=>by simp [word]
 | n+1=>by
  have:=word_lt f b n
  rw [word,Nat.pow_succ];split<;>omega
theorem word_bit (f:Nat→Bool) (b:Nat):∀ n i,i < n→(word f b n).testBit i=f (b+i)
 | 0,i,h=>by omega
 | n+1,i,h=>by
  rw [word]
  rcases Nat.lt_or_eq_of_le (Nat.le_of_lt_succ h) with h1|h1
  ·split
   ·rw [Nat.testBit_two_pow_add_gt h1];exact word_bit f b n i h1
   ·rw [Nat.zero_add];exact word_bit f b n i h1
  ·subst h1
   have hz:(word f b i).testBit i=false:=Nat.testBit_lt_two_pow (word_lt f b i)
   split
   ·rename_i q;rw [Nat.testBit_two_pow_add_eq,hz,q];rfl
   ·rename_i q;rw [Nat.zero_add,hz];cases hf:f (b+i);rfl;exact absurd hf q
structure TN where
 kind:Int
 size:Int
 parts:Value
 byte:Int
 s0:Int
 s1:Int
 s2:Int
 s3:Int
 not:Bool
 num:Int
 least:Int
 most:Int
def tnCells (a:TN):Array Value:=#[.int .i64 a.kind,.int .i64 a.size,a.parts,.int .u8 a.byte,.int .u64 a.s0,.int .u64 a.s1,.int .u64 a.s2,.int .u64 a.s3,.bool a.not,.int .i64 a.num,.int .i64 a.least,.int .i64 a.most]
def TnAt (w:World) (p:Nat) (a:TN):Prop:=w.heap[p]?=some (.cells (tnCells a) 120 (0,0))
structure TnFacts (w:World) (p:Nat) (a:TN):Prop where
 c0:w.cell? ⟨p,0,none⟩=some (.int .i64 a.kind)
 c1:w.cell? ⟨p,1,none⟩=some (.int .i64 a.size)
 c2:w.cell? ⟨p,2,none⟩=some a.parts
 c3:w.cell? ⟨p,3,none⟩=some (.int .u8 a.byte)
 c4:w.cell? ⟨p,4,none⟩=some (.int .u64 a.s0)
 c5:w.cell? ⟨p,5,none⟩=some (.int .u64 a.s1)
 c6:w.cell? ⟨p,6,none⟩=some (.int .u64 a.s2)
 c7:w.cell? ⟨p,7,none⟩=some (.int .u64 a.s3)
 c8:w.cell? ⟨p,8,none⟩=some (.bool a.not)
 c9:w.cell? ⟨p,9,none⟩=some (.int .i64 a.num)
 c10:w.cell? ⟨p,10,none⟩=some (.int .i64 a.least)
 c11:w.cell? ⟨p,11,none⟩=some (.int .i64 a.most)
 fz:∀ o,w.frozen? ⟨p,o,none⟩=false
theorem TnAt.facts {w:World} {p:Nat} {a:TN} (h:TnAt w p a):TnFacts w p a:=by
 unfold TnAt tnCells at h
 refine⟨?_,?_,?_,?_,?_,?_,?_,?_,?_,?_,?_,?_,?_⟩<;>(try intro o)<;>simp [World.cell?,World.frozen?,h]
theorem TnAt.lt {w:World} {p:Nat} {a:TN} (h:TnAt w p a):p < w.heap.size:=lt_of_heap h
theorem TnAt.same {w w':World} {p:Nat} {a:TN} (h:TnAt w p a) (hb:w'.heap[p]?=w.heap[p]?):TnAt w' p a:=hb.trans h
def kindP (k:Nat):Int:=if k=4 then 6 else k
def wordP (a:Lab) (j:Nat):Int:=if a.kind=2 then (word a.set (64 * j) 64:Nat) else 0
def tnOf (a:Lab) (sz:Int) (l:Value):TN:=
 { kind:=kindP a.kind,size:=sz,parts:=l,byte:=if a.kind=0 then a.byte else 0,s0:=wordP a 0,s1:=wordP a 1,s2:=wordP a 2,s3:=wordP a 3,not:=decide (a.kind=2) && a.not,num:=if a.kind=3 then a.num else 0,least:=0,most:=0 }
def tnTurns (sz:Int) (l:Value) (m n:Int):TN:={ kind:=4,size:=sz,parts:=l,byte:=0,s0:=0,s1:=0,s2:=0,s3:=0,not:=false,num:=0,least:=m,most:=n }
def TurnAt (w:World) (S:Nat→Prop) (p q:Nat) (a:Lab) (sz:Int):Prop:=
 (a.min < 0∧q=p)∨(0≤a.min∧S p∧∃ l,TnAt w p (tnTurns sz l a.min a.max)∧w.ownsRow 0 67 1 l 1 [ptr q]∧∀ g,l.ownBlock=some g→S g)
def NodesAt (w:World):(Nat→Prop)→List Nat→List Tr→Prop
 | _,[],[]=>True
 | S,p::ps,⟨a,ks⟩::r=>(∃ q l qs,TurnAt w S p q a (psz ⟨a,ks⟩)∧S q∧TnAt w q (tnOf a (psz (bareOf ⟨a,ks⟩)) l)∧w.ownsRow 0 67 1 l qs.length (qs.map ptr)∧(∀ g,l.ownBlock=some g→S g)∧NodesAt w S qs ks)∧NodesAt w S ps r
 | _,_,_=>False
theorem NodesAt_nil (w:World) (S:Nat→Prop):NodesAt w S [] []:=by unfold NodesAt;trivial
theorem NodesAt_cons (w:World) (S:Nat→Prop) (p:Nat) (ps:List Nat) (a:Lab) (ks r:List Tr):NodesAt w S (p::ps) (⟨a,ks⟩::r)=((∃ q l qs,TurnAt w S p q a (psz ⟨a,ks⟩)∧S q∧TnAt w q (tnOf a (psz (bareOf ⟨a,ks⟩)) l)∧w.ownsRow 0 67 1 l qs.length (qs.map ptr)∧(∀ g,l.ownBlock=some g→S g)∧NodesAt w S qs ks)∧NodesAt w S ps r):=by rw [NodesAt]
theorem NodesAt_no1 {w:World} {S:Nat→Prop} {t:Tr} {r:List Tr} (h:NodesAt w S [] (t::r)):False:=by obtain⟨a,ks⟩:=t;unfold NodesAt at h;exact h
theorem NodesAt_no2 {w:World} {S:Nat→Prop} {p:Nat} {ps:List Nat} (h:NodesAt w S (p::ps) []):False:=by unfold NodesAt at h;exact h
theorem TurnAt.same {w w':World} {S:Nat→Prop} {p q:Nat} {a:Lab} {sz:Int} (h:TurnAt w S p q a sz) (hb:∀ k,S k→k < w.heap.size→w'.heap[k]?=w.heap[k]?):TurnAt w' S p q a sz:=by
 rcases h with h|⟨h0,h1,l,h2,h3,h4⟩
 ·exact Or.inl h
 ·exact Or.inr ⟨h0,h1,l,h2.same (hb p h1 h2.lt),ownsRow_same h3 (fun g hg hl=>hb g (h4 g hg) hl),h4⟩
theorem TurnAt.mono {w:World} {S S':Nat→Prop} {p q:Nat} {a:Lab} {sz:Int} (h:TurnAt w S p q a sz) (hb:∀ k,S k→k < w.heap.size→S' k):TurnAt w S' p q a sz:=by
 rcases h with h|⟨h0,h1,l,h2,h3,h4⟩
 ·exact Or.inl h
 ·exact Or.inr ⟨h0,hb p h1 h2.lt,l,h2,h3,fun g hg=>hb g (h4 g hg) (ownBlock_lt h3 hg).1⟩
theorem NodesAt.same {w w':World} {S:Nat→Prop}:∀ (ps:List Nat) (ts:List Tr),NodesAt w S ps ts→(∀ k,S k→k < w.heap.size→w'.heap[k]?=w.heap[k]?)→NodesAt w' S ps ts
 | [],[],_,_=>NodesAt_nil _ _
 | p::ps,⟨a,ks⟩::r,h,hb=>by
  rw [NodesAt_cons] at h ⊢
  obtain⟨⟨q,l,qs,h1,h2,h3,h4,h5,h6⟩,h7⟩:=h
  exact⟨⟨q,l,qs,h1.same hb,h2,h3.same (hb q h2 h3.lt),ownsRow_same h4 (fun g hg hl=>hb g (h5 g hg) hl),h5,NodesAt.same qs ks h6 hb⟩,NodesAt.same ps r h7 hb⟩
 | [],_::_,h,_=>(NodesAt_no1 h).elim
 | _::_,[],h,_=>(NodesAt_no2 h).elim
theorem NodesAt.mono {w:World} {S S':Nat→Prop}:∀ (ps:List Nat) (ts:List Tr),NodesAt w S ps ts→(∀ k,S k→k < w.heap.size→S' k)→NodesAt w S' ps ts
 | [],[],_,_=>NodesAt_nil _ _
 | p::ps,⟨a,ks⟩::r,h,hb=>by
  rw [NodesAt_cons] at h ⊢
  obtain⟨⟨q,l,qs,h1,h2,h3,h4,h5,h6⟩,h7⟩:=h
  exact⟨⟨q,l,qs,h1.mono hb,hb q h2 h3.lt,h3,h4,fun g hg=>hb g (h5 g hg) (ownBlock_lt h4 hg).1,NodesAt.mono qs ks h6 hb⟩,NodesAt.mono ps r h7 hb⟩
 | [],_::_,h,_=>(NodesAt_no1 h).elim
 | _::_,[],h,_=>(NodesAt_no2 h).elim
theorem NodesAt.append {w:World} {S:Nat→Prop}:∀ (ps:List Nat) (ts:List Tr) (qs:List Nat) (us:List Tr),NodesAt w S ps ts→NodesAt w S qs us→NodesAt w S (ps++qs) (ts++us)
 | [],[],_,_,_,h=>h
 | p::ps,⟨a,ks⟩::r,qs,us,h1,h=>by
  rw [NodesAt_cons] at h1
  show NodesAt w S (p::(ps++qs)) (⟨a,ks⟩::(r++us))
  rw [NodesAt_cons]
  exact⟨h1.1,NodesAt.append ps r qs us h1.2 h⟩
 | [],_::_,_,_,h,_=>(NodesAt_no1 h).elim
 | _::_,[],_,_,h,_=>(NodesAt_no2 h).elim
theorem NodesAt.length {w:World} {S:Nat→Prop}:∀ (ps:List Nat) (ts:List Tr),NodesAt w S ps ts→ps.length=ts.length
 | [],[],_=>rfl
 | p::ps,⟨a,ks⟩::r,h=>by rw [NodesAt_cons] at h;simp [NodesAt.length ps r h.2]
 | [],_::_,h=>(NodesAt_no1 h).elim
 | _::_,[],h=>(NodesAt_no2 h).elim
theorem NodesAt.upd {l:List Nat} {w w':World} {S:Nat→Prop} {ps:List Nat} {ts:List Tr} (h:NodesAt w S ps ts) (u:Upd l w w') (hl:∀ k,k∈l→¬ S k):NodesAt w' S ps ts:=
 NodesAt.same ps ts h (fun k hk hlt=>u.block k hlt (fun q=>hl k q hk))
theorem nodePsz {w:World} {S:Nat→Prop} {p:Nat} {t:Tr} (h:NodesAt w S [p] [t]):w.cell? ⟨p,1,none⟩=some (.int .i64 (psz t)):=by
 obtain⟨a,ks⟩:=t
 rw [NodesAt_cons] at h
 obtain⟨⟨q,l,qs,h1,h2,h3,h4,h5,h6⟩,_⟩:=h
 rcases h1 with ⟨hm,rfl⟩|⟨h0,hS,l',ht,_,_⟩
 ·have:psz (bareOf ⟨a,ks⟩)=psz ⟨a,ks⟩:=by
   unfold psz bareOf Sp.size Sp.sz1;simp [hm,Sp.szB]
  rw [← this];exact h3.facts.c1
 ·exact ht.facts.c1
def PNodeOut (r:Nat) (s:ByteArray) (x:RS) (w:World) (res:Sp.Res (Tr×Sp.At)) (k:Ending) (w':World):Prop:=
 Upd [r] w w'∧match res with
 | .ok (t,y)=>∃ p,k=.returned (.tuple #[ptr p,.bool true])∧NodesAt w' (fun k=>w.heap.size≤k) [p] [t]∧PdAt w' r s { x with i:=y.i,t:=y.t }
 | .error (e,a)=>∃ i' t',k=.returned (.tuple #[.pointer none,.bool false])∧PdAt w' r s ⟨i',e,a,x.d,t'⟩
theorem PNodeOut.mk_ok {r:Nat} {s:ByteArray} {x:RS} {w w':World} {res:Sp.Res (Tr×Sp.At)} {k:Ending} (t:Tr) (y:Sp.At) (p:Nat) (h:res=.ok (t,y)) (u:Upd [r] w w') (hk:k=.returned (.tuple #[ptr p,.bool true])) (hn:NodesAt w' (fun k=>w.heap.size≤k) [p] [t]) (hr:PdAt w' r s { x with i:=y.i,t:=y.t }):PNodeOut r s x w res k w':=by
 subst h;exact⟨u,p,hk,hn,hr⟩
theorem PNodeOut.mk_error {r:Nat} {s:ByteArray} {x:RS} {w w':World} {res:Sp.Res (Tr×Sp.At)} {k:Ending} (e a:Int) (i':Nat) (t':Int) (h:res=.error (e,a)) (u:Upd [r] w w') (hk:k=.returned (.tuple #[.pointer none,.bool false])) (hr:PdAt w' r s ⟨i',e,a,x.d,t'⟩):PNodeOut r s x w res k w':=by
 subst h;exact⟨u,i',t',hk,hr⟩
theorem TnAt.new {w:World} {a:TN} {c:Array Value} {p:Nat} (hc:c=tnCells a) (hp:p=w.heap.size):TnAt (w.alloc (.cells c 120)) p a:=by
 subst hp hc;show (w.heap.push _)[w.heap.size]?=_;simp
theorem own_one {w:World} {q p:Nat} {c:Array Value} (hc:c=#[ptr q]) (hp:p=w.heap.size):(w.alloc (.cells c 67)).ownsRow 0 67 1 (.slice (some ⟨p,0,none⟩) 1 1) 1 [ptr q]:=by
 subst hp hc
 exact⟨rfl,Or.inr ⟨w.heap.size,1,#[ptr q],rfl,Nat.zero_le _,by show (w.heap.push _)[w.heap.size]?=_;simp,Nat.le_refl _,by unfold maxLen;omega,rfl,rfl⟩⟩
def NewOut (w:World) (a:TN) (e:Ending) (w':World):Prop:=∃ p,e=.returned (ptr p)∧w.heap.size≤p∧Upd [] w w'∧TnAt w' p a
set_option maxHeartbeats 400000 in
theorem tByte_any (b:Int) (w:World) :
  Calls Tryz.prog 127 #[.int .u8 b] w (NewOut w { kind:=0,size:=1,parts:=.slice none 0 0,byte:=b,s0:=0,s1:=0,s2:=0,s3:=0,not:=false,num:=0,least:=0,most:=0 }):=by
 go_enter Tryz.func127,Tryz.ntmps127
 go_wp2
 go_ret
 exact⟨_,rfl,Nat.le_refl _,by (repeat (first|exact Upd.refl _ _|refine Upd.drewN ?_|refine Upd.drew ?_|refine Upd.setCell ?_ (by simp) _|refine Upd.alloc ?_ _)),TnAt.new rfl rfl⟩
set_option maxHeartbeats 400000 in
theorem tAny_any (w:World) :
  Calls Tryz.prog 125 #[] w (NewOut w { kind:=1,size:=1,parts:=.slice none 0 0,byte:=0,s0:=0,s1:=0,s2:=0,s3:=0,not:=false,num:=0,least:=0,most:=0 }):=by
 go_enter Tryz.func125,Tryz.ntmps125
 go_wp2
 go_ret
 exact⟨_,rfl,Nat.le_refl _,by (repeat (first|exact Upd.refl _ _|refine Upd.drewN ?_|refine Upd.drew ?_|refine Upd.setCell ?_ (by simp) _|refine Upd.alloc ?_ _)),TnAt.new rfl rfl⟩
set_option maxHeartbeats 400000 in
theorem tList_any (s0 s1 s2 s3:Int) (n:Bool) (w:World) :
  Calls Tryz.prog 135 #[.agg #[.int .u64 s0,.int .u64 s1,.int .u64 s2,.int .u64 s3],.bool n] w (NewOut w { kind:=2,size:=1,parts:=.slice none 0 0,byte:=0,s0:=s0,s1:=s1,s2:=s2,s3:=s3,not:=n,num:=0,least:=0,most:=0 }):=by
 go_enter Tryz.func135,Tryz.ntmps135
 go_wp2
 go_ret
 exact⟨_,rfl,Nat.le_succ _,by (repeat (first|exact Upd.refl _ _|refine Upd.drewN ?_|refine Upd.drew ?_|refine Upd.setCell ?_ (by simp) _|refine Upd.alloc ?_ _)),TnAt.new rfl (by simp)⟩
def OverOut (w:World) (q:Nat) (a:Value→TN) (e:Ending) (w':World):Prop:=
 ∃ p l,e=.returned (ptr p)∧w.heap.size≤p∧Upd [] w w'∧TnAt w' p (a l)∧w'.ownsRow 0 67 1 l 1 [ptr q]∧∀ g,l.ownBlock=some g→w.heap.size≤g
set_option maxHeartbeats 400000 in
theorem tGroup_any (num:Int) (c:Nat) (sz:Int) (w:World) (hc:w.cell? ⟨c,1,none⟩=some (.int .i64 sz)) (h0:0≤sz) (h1:sz≤61) :
  Calls Tryz.prog 132 #[.int .i64 num,.pointer (some ⟨c,0,none⟩)] w (OverOut w c fun l=>{ kind:=3,size:=max sz 1,parts:=l,byte:=0,s0:=0,s1:=0,s2:=0,s3:=0,not:=false,num:=num,least:=0,most:=0 }):=by
 go_enter Tryz.func132,Tryz.ntmps132
 go_wp2
 all_goals go_ret
 all_goals exact⟨_,_,rfl,Nat.le_succ _,by (repeat (first|exact Upd.refl _ _|refine Upd.drewN ?_|refine Upd.drew ?_|refine Upd.setCell ?_ (by simp) _|refine Upd.alloc ?_ _)),TnAt.new (by unfold tnCells;first|rw [show max sz 1=1 by omega]|rw [show max sz 1=sz by omega]) (by simp),(own_one rfl rfl).alloc _,by intro g hg;simp [Value.ownBlock] at hg;omega⟩
def tTimes (m n:Int):Int:=if n < 0 then max m 1 else n
theorem times_bd {sz k:Int} (h0:0≤sz) (h1:sz≤61) (k0:0≤k) (k1:k≤20):0≤sz * k∧sz * k≤1220:=by
 have a:=Int.mul_nonneg h0 k0
 have b:sz * k≤61 * 20:=Int.mul_le_mul h1 k1 k0 (by omega)
 omega
set_option maxHeartbeats 800000 in
theorem tTurns_any (q:Nat) (sz m n:Int) (w:World) (hc:w.cell? ⟨q,1,none⟩=some (.int .i64 sz)) (h0:0≤sz) (h1:sz≤61) (m0:0≤m) (m1:m≤20) (n0:-1≤n) (n1:n≤20) :
  Calls Tryz.prog 117 #[.pointer (some ⟨q,0,none⟩),.int .i64 m,.int .i64 n] w (OverOut w q fun l=>tnTurns (min (sz * tTimes m n) 61) l m n):=by
 by_cases hn:n=-1
 ·subst hn
  by_cases hm:m < 1
  ·have HT:Hid (tTimes m (-1)=1):=by show _=_;unfold tTimes;rw [if_pos (by omega)];omega
   go_enter Tryz.func117,Tryz.ntmps117
   go_wp2
   all_goals go_ret
   all_goals exact⟨_,_,rfl,Nat.le_succ _,by (repeat (first|exact Upd.refl _ _|refine Upd.drewN ?_|refine Upd.drew ?_|refine Upd.setCell ?_ (by simp) _|refine Upd.alloc ?_ _)),TnAt.new (by unfold tnCells tnTurns;rw [HT.out,Int.mul_one];first|rw [show min sz 61=61 by omega]|rw [show min sz 61=sz by omega]) (by simp),(own_one rfl rfl).alloc _,by intro g hg;simp [Value.ownBlock] at hg;omega⟩
  ·have HT:Hid (tTimes m (-1)=m):=by show _=_;unfold tTimes;rw [if_pos (by omega)];omega
   obtain⟨b0,b1⟩:=times_bd h0 h1 m0 m1
   go_enter Tryz.func117,Tryz.ntmps117
   go_wp2
   all_goals go_ret
   all_goals exact⟨_,_,rfl,Nat.le_succ _,by (repeat (first|exact Upd.refl _ _|refine Upd.drewN ?_|refine Upd.drew ?_|refine Upd.setCell ?_ (by simp) _|refine Upd.alloc ?_ _)),TnAt.new (by unfold tnCells tnTurns;rw [HT.out];first|rw [show min (sz * m) 61=61 by omega]|rw [show min (sz * m) 61=sz * m by omega]) (by simp),(own_one rfl rfl).alloc _,by intro g hg;simp [Value.ownBlock] at hg;omega⟩
 ·have hne:(n == -1)=false:=by simpa using hn
  have HT:Hid (tTimes m n=n):=by show _=_;unfold tTimes;rw [if_neg (by omega)]
  obtain⟨b0,b1⟩:=times_bd h0 h1 (by omega:(0:Int)≤n) n1
  go_enter Tryz.func117,Tryz.ntmps117
  go_wp2
  all_goals go_ret
  all_goals exact⟨_,_,rfl,Nat.le_succ _,by (repeat (first|exact Upd.refl _ _|refine Upd.drewN ?_|refine Upd.drew ?_|refine Upd.setCell ?_ (by simp) _|refine Upd.alloc ?_ _)),TnAt.new (by unfold tnCells tnTurns;rw [HT.out];first|rw [show min (sz * n) 61=61 by omega]|rw [show min (sz * n) 61=sz * n by omega]) (by simp),(own_one rfl rfl).alloc _,by intro g hg;simp [Value.ownBlock] at hg;omega⟩
theorem NodesAt.get {w:World} {S:Nat→Prop}:∀ (ps:List Nat) (ts:List Tr),NodesAt w S ps ts→∀ (k:Nat) (q:Nat) (t:Tr),ps[k]?=some q→ts[k]?=some t→NodesAt w S [q] [t]
 | [],[],_,k,q,t,h,_=>by simp at h
 | p::ps,⟨a,ks⟩::r,h,k,q,t,h1,h2=>by
  rw [NodesAt_cons] at h
  cases k with
  | zero=>simp at h1 h2;subst h1 h2;rw [NodesAt_cons];exact⟨h.1,NodesAt_nil _ _⟩
  | succ k=>simp at h1 h2;exact NodesAt.get ps r h.2 k q t h1 h2
 | [],_::_,h,_,_,_,_,_=>(NodesAt_no1 h).elim
 | _::_,[],h,_,_,_,_,_=>(NodesAt_no2 h).elim
theorem take_get {α:Type} {l:List α} {k:Nat} {t:α} (h:l[k]?=some t):l.take (k+1)=l.take k++[t]:=by
 rw [List.take_add_one,h];rfl
end Go.Proofs.YtcpfpnjkfahjcaaGreat
