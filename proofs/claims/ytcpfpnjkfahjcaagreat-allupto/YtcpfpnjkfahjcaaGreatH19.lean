import Derived.Test.YtcpfpnjkfahjcaaGreatH18
import Derived.Test.YtcpfpnjkfahjcaaGreatH02
set_option linter.unusedSimpArgs false
set_option linter.unusedVariables false
namespace Go.Proofs.YtcpfpnjkfahjcaaGreat
open Go.RowKit
theorem BehindC.cong {w0:World} {s:Nat} {t:ByteArray} {n d i p lo:Nat} {m m':Nat→Bool} (h:BehindC w0 s t n d i p lo m) (e:∀ j,m j=m' j):BehindC w0 s t n d i p lo m':=by
 have:m=m':=funext e
 rw [← this];exact h
theorem EndsOut.cong {w0:World} {s:Nat} {t:ByteArray} {m m':Nat→Bool} {w:World} {e:Ending} {w':World} (h:EndsOut w0 s t m w e w') (q:∀ j,m j=m' j):EndsOut w0 s t m' w e w':=by
 have:m=m':=funext q
 rw [← this];exact h
def okD (m:Nat) (mx:Int) (d:Nat):Prop:=(mx=-1→d≤m)∧(mx≠-1→(d:Int)≤mx)
theorem turns_ends (w0:World) (s n q g cap:Nat) (S:Nat→Prop) (t:ByteArray) (tr pt:Tr) (a:TN) (m:Nat) (mx:Int) (ht:t.size≤100)
  (hS:∀ k,S k→k < s) (hT:NodesAt w0 S [n] [tr]) (hC:Sp.Can [tr]) (hn:TnAt w0 n a) (hns:n < s) (hk:a.kind=4) (hp:a.parts=.slice (some ⟨g,0,none⟩) 1 cap) (hg:g < s) (hc:w0.cell? ⟨g,0,none⟩=some (ptr q))
  (hl:a.least=m) (hx:a.most=mx) (hm:m≤20) (hmx:-1≤mx∧mx≤20) (hmm:mx=-1∨(m:Int)≤mx)
  (hsp:∀ d i j,Sp.spotM t tr d i j=Sp.turnsD (Sp.sem t pt) m (Sp.most mx) d i j) (hq:∀ i,i≤t.size→EndsC w0 s t q pt 0 i) :
  ∀ (N d i:Nat),(t.size - i) * 100+(m - d) < N→i≤t.size→okD m mx d→EndsC w0 s t n tr d i:=by
 intro N
 induction N with
 | zero=>intro d i h;omega
 | succ N ih=>
  intro d i hN hi hd
  refine mEnds_4 w0 s n d i S t tr a hS hT hC hn hns hk ?_
  intro w hw
  have hd1:d < 1000:=by
   by_cases q':mx=-1
   ·have:=hd.1 q';omega
   ·have:=hd.2 q';omega
  by_cases hlt:d < m
  ·have hnx:nextD a d=d+1:=by unfold nextD;rw [hl];split<;>omega
   have hb:=mBehindC w0 s n q d i i t tr pt a ht (by omega) hd1 hn hns (by rw [hl];omega) (hq i hi) (fun k h1 h2 _=>by
    rw [hnx]
    refine ih (d+1) k ?_ h2 ⟨fun _=>by omega,fun h=>by rcases hmm with h'|h'<;>omega⟩
    rcases Nat.lt_or_eq_of_le h1 with h3|h3
    ·have:(t.size - k) * 100+100≤(t.size - i) * 100:=by omega
     omega
    ·subst h3;omega)
   refine mTurnsE_less w0 s n d i g cap q t _ a w hw hn hns hp hg hc (by rw [hl];omega) (hb.cong fun j=>?_)
   rw [hnx,hsp,Sp.turnsD_less _ _ _ _ _ _ hlt]
   exact Sp.cutB_congr fun k _ _=>by rw [hsp]
  ·by_cases hfull:(d:Int)=mx
   ·refine (mTurnsE_full w0 s n d i g cap q t a w hw hn hns hp hg hc (by rw [hl];omega) (by rw [hx];exact hfull) (by omega)).mono fun e w' h=>h.cong fun j=>?_
    rw [hsp,Sp.turnsD_more _ _ _ _ _ _ (by omega)]
    have:Sp.most mx=some d:=by unfold Sp.most;rw [if_neg (by omega)];congr 1;omega
    rw [this];simp
    exact Bool.eq_iff_iff.mpr ⟨fun h=>by simp at h;simp [h],fun h=>by simp at h;simp [h]⟩
   ·have hbb:∀ k,i+1≤k→k≤t.size→EndsC w0 s t n tr (nextD a d) k:=fun k h1 h2=>by
     have hnn:okD m mx (nextD a d)∧m - nextD a d≤20:=by
      refine⟨⟨fun h=>?_,fun h=>?_⟩,by omega⟩
      ·unfold nextD;rw [hx,if_pos h,hl];omega
      ·unfold nextD;rw [hx,if_neg h];have:=hd.2 h;omega
     refine ih _ k ?_ h2 hnn.1
     have:=hnn.2
     have:(t.size - k) * 100+100≤(t.size - i) * 100:=by omega
     omega
    have hb:=mBehindC w0 s n q d i (i+1) t tr pt a ht (by omega) hd1 hn hns (by rw [hl];omega) (hq i hi) (fun k h1 h2 _=>hbb k h1 h2)
    refine (mTurnsE_more w0 s n d i g cap q t _ a w hw hn hns hp hg hc (by rw [hl];omega) (by rw [hx];exact hfull) (by omega) hb).mono fun e w' h=>h.cong fun j=>?_
    rw [hsp,Sp.turnsD_more _ _ _ _ _ _ (by omega)]
    have hne:((Sp.most mx).map (· - d) != some 0)=true:=by
     unfold Sp.most
     split
     ·rfl
     ·have:=hd.2 (by omega);simp;omega
    have hcut:Sp.cutB (Sp.sem t pt).m (Sp.spotM t tr (nextD a d)) (i+1) i j=Sp.cutB (Sp.sem t pt).m (Sp.turnsD (Sp.sem t pt) m (Sp.most mx) (d+1)) (i+1) i j:=by
     refine Sp.cutB_congr fun k _ _=>?_
     rw [hsp]
     unfold nextD;rw [hx,hl]
     split
     ·rename_i hmx1
      have hdm:d=m:=by have:=hd.1 hmx1;omega
      have e1:(min ((d:Int)+1) (m:Int)).toNat=m:=by omega
      have e2:Sp.most mx=none:=by unfold Sp.most;rw [if_pos (by omega)]
      rw [e1,e2,Sp.turnsD_endless _ m (d+1) k j (by omega)]
     ·rfl
    rw [hne,hcut,Bool.true_and,Bool.or_comm]
    congr 1
    exact Bool.eq_iff_iff.mpr ⟨fun h=>by simp at h;simp [h],fun h=>by simp at h;simp [h]⟩
namespace Sp
theorem sems_length (s:ByteArray):∀ l:List Tr,(sems s l).length=l.length
 | []=>by rw [sems_nil];rfl
 | t::r=>by rw [sems_cons];simp [sems_length s r]
theorem sems_drop (s:ByteArray):∀ (l:List Tr) (d:Nat) (u:Tr),l[d]?=some u→(sems s l).drop d=sem s u::(sems s l).drop (d+1)
 | [],d,u,h=>by simp at h
 | t::r,0,u,h=>by simp at h;subst h;rw [sems_cons];rfl
 | t::r,d+1,u,h=>by
  rw [sems_cons]
  have:=sems_drop s r d u (by simpa using h)
  simpa using this
end Sp
def PartsIn (w0:World) (s:Nat) (l:Value) (qs:List Nat):Prop:=(l=.slice none 0 0∧qs=[])∨∃ g cap,l=.slice (some ⟨g,0,none⟩) qs.length cap∧g < s∧∀ (k q:Nat),qs[k]?=some q→w0.cell? ⟨g,k,none⟩=some (ptr q)
theorem row_ends (w0:World) (s n:Nat) (S:Nat→Prop) (t:ByteArray) (tr:Tr) (a:TN) (qs:List Nat) (ht:t.size≤100)
  (hS:∀ k,S k→k < s) (hT:NodesAt w0 S [n] [tr]) (hC:Sp.Can [tr]) (hn:TnAt w0 n a) (hns:n < s) (hk:a.kind=5) (hp:PartsIn w0 s a.parts qs) (hql:qs.length≤1000) (hkl:qs.length=tr.kids.length)
  (hm:a.most=0) (hl:a.least=0) (hkk:tr.lab.kind=5) (hmin:tr.lab.min < 0)
  (hq:∀ (k q:Nat) (u:Tr),qs[k]?=some q→tr.kids[k]?=some u→∀ i,i≤t.size→EndsC w0 s t q u 0 i) :
  ∀ (e d i:Nat),qs.length - d=e→d≤qs.length→i≤t.size→EndsC w0 s t n tr d i:=by
 have hsp:∀ d i j,Sp.spotM t tr d i j=Sp.rowM ((Sp.sems t tr.kids).drop d) i j:=fun d i j=>by
  unfold Sp.spotM;rw [if_neg (by omega),if_pos hkk]
 have hnx:∀ d,nextD a d=d+1:=fun d=>by unfold nextD;rw [hm,if_neg (by omega)]
 intro e
 induction e with
 | zero=>
  intro d i he hd hi
  refine mEnds_5 w0 s n d i S t tr a hS hT hC hn hns hk ?_
  intro w hw
  have hdl:d=qs.length:=by omega
  have key:∃ pa cap,a.parts=.slice pa qs.length cap:=by
   rcases hp with ⟨h1,h2⟩|⟨g,cap,h1,_⟩
   ·exact⟨none,0,by rw [h1,h2];rfl⟩
   ·exact⟨_,cap,h1⟩
  obtain⟨pa,cap,hpa⟩:=key
  refine (mRowE_done w0 s n d i cap qs.length pa t a w hw hn hns hpa hdl (by omega)).mono fun e w' h=>h.cong fun j=>?_
  rw [hsp,List.drop_of_length_le (by rw [Sp.sems_length];omega)]
  show (j == i)=(i == j)
  exact Bool.eq_iff_iff.mpr ⟨fun h=>by simp at h;simp [h],fun h=>by simp at h;simp [h]⟩
 | succ e ih=>
  intro d i he hd hi
  refine mEnds_5 w0 s n d i S t tr a hS hT hC hn hns hk ?_
  intro w hw
  have hlt:d < qs.length:=by omega
  obtain⟨q,hq1⟩:∃ q,qs[d]?=some q:=⟨_,List.getElem?_eq_getElem hlt⟩
  obtain⟨u,hu⟩:∃ u,tr.kids[d]?=some u:=⟨_,List.getElem?_eq_getElem (by omega)⟩
  rcases hp with ⟨h1,h2⟩|⟨g,cap,h1,hg,hc⟩
  ·rw [h2] at hlt;simp at hlt
  ·have hb:=mBehindC w0 s n q d i i t tr u a ht (by omega) (by omega) hn hns (by omega) (hq d q u hq1 hu i hi) (fun k h3 h4 _=>by
    rw [hnx];exact ih (d+1) k (by omega) (by omega) h4)
   refine mRowE_some w0 s n d i g cap qs.length q t _ a w hw hn hns h1 hg hlt (by omega) (hc d q hq1) (hb.cong fun j=>?_)
   rw [hnx,hsp]
   have hdr:(Sp.sems t tr.kids).drop d=Sp.sem t u::(Sp.sems t tr.kids).drop (d+1):=Sp.sems_drop t _ _ _ hu
   rw [hdr,Sp.rowM]
   exact Sp.cutB_congr fun k _ _=>by rw [hsp]
namespace Sp
theorem sems_map (s:ByteArray):∀ l:List Tr,sems s l=l.map (sem s)
 | []=>by rw [sems_nil];rfl
 | t::r=>by rw [sems_cons,sems_map s r];rfl
theorem spotM_bare {s:ByteArray} {t:Tr} (h:t.lab.min < 0) (hk:t.lab.kind≠5) (d i j:Nat):spotM s t d i j=(bareSem s t.lab (sems s t.kids)).m i j:=by
 unfold spotM;rw [if_neg (by omega),if_neg hk];unfold sem node;rw [if_pos h]
end Sp
theorem LeafOut.ends {w0:World} {s:Nat} {t:ByteArray} {i:Nat} {b:Bool} {w w':World} {e:Ending} {m:Nat→Bool} (h:LeafOut i b w e w') (l:Live w0 s t w) (hm:∀ j,(b && j == i+1)=m j):EndsOut w0 s t m w e w':=by
 obtain⟨f,h1,h2,u⟩:=h
 exact⟨f,h1,fun j _=>by rw [h2 j,hm j],u.gone0,l.grow u⟩
theorem one_is (t:ByteArray) (a:Lab) (l:List Sp.Sem) (hk:a.kind≤2) (i j:Nat) (b:Bool) (hb:b=Sp.fits a (Sp.byteAt t i).toNat):((decide (i < t.size) && b) && j == i+1)=(Sp.bareSem t a l).m i j:=by
 unfold Sp.bareSem
 rw [if_pos hk,hb]
 show _=Sp.one t (Sp.fits a) i j
 unfold Sp.one
 cases decide (i < t.size)<;>cases (j == i+1)<;>simp
theorem leaf_ends (w0:World) (s n:Nat) (S:Nat→Prop) (t:ByteArray) (tr:Tr) (sz:Int) (l:Value) (ht:t.size≤100)
  (hS:∀ k,S k→k < s) (hT:NodesAt w0 S [n] [tr]) (hC:Sp.Can [tr]) (hn:TnAt w0 n (tnOf tr.lab sz l)) (hns:n < s) (hk:tr.lab.kind≤2) (hmin:tr.lab.min < 0) (d i:Nat):EndsC w0 s t n tr d i:=by
 have cl:=((Sp.Can_cons _ _).mp hC).1.1
 have hsp:∀ j,Sp.spotM t tr d i j=(Sp.bareSem t tr.lab (Sp.sems t tr.kids)).m i j:=fun j=>Sp.spotM_bare hmin (by omega) d i j
 rcases (by omega:tr.lab.kind=0∨tr.lab.kind=1∨tr.lab.kind=2) with h|h|h
 ·refine mEnds_0 w0 s n d i S t tr _ hS hT hC hn hns (by simp [tnOf,kindP,h]) ?_
  intro w hw
  obtain⟨m,sm,_⟩:=hw.srch
  refine (mByteE_any s n d i t m _ w sm (hw.tn hn hns) ht).mono fun e w' q=>q.ends hw fun j=>?_
  rw [hsp]
  refine one_is t _ _ (by omega) i j _ ?_
  unfold Sp.fits
  rw [(cl.s0 h).2,cl.not (by omega),h]
  simp only [tnOf,h]
  exact Bool.eq_iff_iff.mpr ⟨fun q=>by simp at q;simp;omega,fun q=>by simp at q;simp;omega⟩
 ·refine mEnds_1 w0 s n d i S t tr _ hS hT hC hn hns (by simp [tnOf,kindP,h]) ?_
  intro w hw
  obtain⟨m,sm,_⟩:=hw.srch
  refine (mAnyE_any s n d i t m _ w sm (hw.tn hn hns) ht).mono fun e w' q=>q.ends hw fun j=>?_
  rw [hsp]
  refine one_is t _ _ (by omega) i j _ ?_
  unfold Sp.fits
  rw [cl.s1 h,cl.not (by omega),h]
  exact Bool.eq_iff_iff.mpr ⟨fun q=>by simp at q;simp;omega,fun q=>by simp at q;simp;omega⟩
 ·refine mEnds_2 w0 s n d i S t tr _ hS hT hC hn hns (by simp [tnOf,kindP,h]) ?_
  intro w hw
  obtain⟨m,sm,_⟩:=hw.srch
  have tn:=hw.tn hn hns
  have f:=tn.facts
  have hset:SetIn w n 4 tr.lab.set:=by
   have c4:=f.c4;have c5:=f.c5;have c6:=f.c6;have c7:=f.c7
   simp only [tnOf,wordP,if_pos h] at c4 c5 c6 c7
   exact⟨c4,c5,c6,c7⟩
  refine (mListE_any s n d i t m _ w sm tn ht tr.lab.set hset).mono fun e w' q=>q.ends hw fun j=>?_
  rw [hsp]
  refine one_is t _ _ (by omega) i j _ ?_
  unfold Sp.fits
  simp [tnOf,h]
theorem group_ends (w0:World) (s n q:Nat) (S:Nat→Prop) (t:ByteArray) (tr u:Tr) (a:TN)
  (hS:∀ k,S k→k < s) (hT:NodesAt w0 S [n] [tr]) (hC:Sp.Can [tr]) (hn:TnAt w0 n a) (hns:n < s) (hk:a.kind=3) (hp:PartsIn w0 s a.parts [q]) (hkk:tr.lab.kind=3) (hmin:tr.lab.min < 0) (hks:tr.kids=[u]) (d i:Nat)
  (hq:EndsC w0 s t q u 0 i):EndsC w0 s t n tr d i:=by
 refine mEnds_3 w0 s n d i S t tr a hS hT hC hn hns hk ?_
 intro w hw
 rcases hp with ⟨_,h2⟩|⟨g,cap,h1,hg,hc⟩
 ·simp at h2
 ·refine (mGroupE_any w0 s n d i g cap q t u a w hw hn hns h1 hg (hc 0 q rfl) hq).mono fun e w' h=>h.cong fun j=>?_
  rw [Sp.spotM_bare hmin (by omega) d i j,hks,Sp.sems_cons,Sp.sems_nil]
  unfold Sp.bareSem
  rw [if_neg (by omega),if_pos hkk]
  show _=Sp.choiceM _ i j
  simp [Sp.choiceM]
theorem choice_ends (w0:World) (s n:Nat) (S:Nat→Prop) (t:ByteArray) (tr:Tr) (a:TN) (qs:List Nat)
  (hS:∀ k,S k→k < s) (hT:NodesAt w0 S [n] [tr]) (hC:Sp.Can [tr]) (hn:TnAt w0 n a) (hns:n < s) (hk:a.kind=6) (hp:PartsIn w0 s a.parts qs) (hne:qs≠[]) (hql:qs.length≤1000) (hkl:qs.length=tr.kids.length) (hkk:tr.lab.kind=4) (hmin:tr.lab.min < 0) (d i:Nat)
  (hq:∀ (k q:Nat) (u:Tr),qs[k]?=some q→tr.kids[k]?=some u→EndsC w0 s t q u 0 i):EndsC w0 s t n tr d i:=by
 refine mEnds_6 w0 s n d i S t tr a hS hT hC hn hns hk ?_
 intro w hw
 rcases hp with ⟨_,h2⟩|⟨g,cap,h1,hg,hc⟩
 ·exact absurd h2 hne
 ·refine (mChoiceE_some w0 s n d i g cap qs tr.kids t a w hw hn hns h1 hg (by omega) hkl hc hq).mono fun e w' h=>h.cong fun j=>?_
  rw [Sp.spotM_bare hmin (by omega) d i j]
  unfold Sp.bareSem
  rw [if_neg (by omega),if_neg (by omega),if_pos hkk]
  show _=Sp.choiceM _ i j
  unfold Sp.choiceM
  rw [Sp.sems_map]
  simp only [List.any_map]
  rfl
def bare0 (t:Tr):Tr:=⟨{ t.lab with min:=-1,max:=0 },t.kids⟩
theorem bare0_same {t:Tr} (h:Sp.CanL t.lab) (hm:t.lab.min < 0):bare0 t=t:=by
 obtain⟨a,ks⟩:=t
 obtain⟨k,b,s,n,to,nu,mi,ma⟩:=a
 have:=h.cnt hm
 simp only at this
 obtain⟨rfl,rfl⟩:=this
 rfl
theorem psz_bare0 (t:Tr):psz (bareOf (bare0 t))=psz (bareOf t):=by
 unfold psz bareOf bare0 Sp.size Sp.sz1;simp [Sp.szB]
theorem bare0_can {t:Tr} (h:Sp.Can [t]):Sp.Can [bare0 t]:=by
 rw [Sp.Can_cons] at h ⊢
 obtain⟨⟨c,h1,h2,h3⟩,h4,h5⟩:=h
 exact⟨⟨⟨c.kind,c.byte,c.num,c.told,c.s0,c.s1,c.s2,c.s3,c.not,fun _=>⟨rfl,rfl⟩,by show -1≤(0:Int)∧(0:Int)≤20;omega,by show (-1:Int)≤20;omega,fun q=>by exact absurd q (by show ¬ (0:Int)≤-1;omega)⟩,h1,h2,h3⟩,h4,h5⟩
theorem bare0_sem (s:ByteArray) (t:Tr):Sp.sem s (bare0 t)=Sp.bareSem s t.lab (Sp.sems s t.kids):=by
 unfold Sp.sem Sp.node bare0
 rw [if_pos (by show (-1:Int) < 0;omega)]
 rfl
theorem PartsIn.of {w0:World} {s:Nat} {S:Nat→Prop} (hS:∀ k,S k→k < s) {l:Value} {qs:List Nat} (h:w0.ownsRow 0 67 1 l qs.length (qs.map ptr)) (hg:∀ g,l.ownBlock=some g→S g):PartsIn w0 s l qs:=by
 rcases own_cells h with h1|⟨g,cap,h1,_,_,h2⟩
 ·exact Or.inl h1
 ·exact Or.inr ⟨g,cap,h1,hS g (hg g (by rw [h1];rfl)),h2⟩
theorem bare_ends (w0:World) (s q:Nat) (S:Nat→Prop) (t:ByteArray) (tr:Tr) (sz:Int) (l:Value) (qs:List Nat) (ht:t.size≤100)
  (hS:∀ k,S k→k < s) (hT:NodesAt w0 S [q] [tr]) (hC:Sp.Can [tr]) (hSq:S q) (hn:TnAt w0 q (tnOf tr.lab sz l)) (hp:PartsIn w0 s l qs) (hkl:qs.length=tr.kids.length) (hf:tr.kids.length≤1000) (hmin:tr.lab.min < 0)
  (hk:∀ (k p:Nat) (u:Tr),qs[k]?=some p→tr.kids[k]?=some u→∀ i,i≤t.size→EndsC w0 s t p u 0 i) (i:Nat) (hi:i≤t.size):EndsC w0 s t q tr 0 i:=by
 have hc:=((Sp.Can_cons _ _).mp hC).1
 have hns:=hS q hSq
 rcases (by have:=hc.1.kind;omega:tr.lab.kind≤2∨tr.lab.kind=3∨tr.lab.kind=4∨tr.lab.kind=5) with h|h|h|h
 ·exact leaf_ends w0 s q S t tr sz l ht hS hT hC hn hns h hmin 0 i
 ·have h1:=hc.2.2.1 h
  obtain⟨u,hu⟩:∃ u,tr.kids=[u]:=List.length_eq_one_iff.mp h1
  obtain⟨p,hpq⟩:∃ p,qs=[p]:=List.length_eq_one_iff.mp (by omega)
  subst hpq
  exact group_ends w0 s q p S t tr u _ hS hT hC hn hns (by simp [tnOf,kindP,h]) hp h hmin hu 0 i (hk 0 p u rfl (by rw [hu];rfl) i hi)
 ·refine choice_ends w0 s q S t tr _ qs hS hT hC hn hns (by simp [tnOf,kindP,h]) hp ?_ (by omega) hkl h hmin 0 i (fun k p u h1 h2=>hk k p u h1 h2 i hi)
  intro q0;subst q0
  exact hc.2.2.2 h (List.eq_nil_of_length_eq_zero (by simpa using hkl.symm))
 ·exact row_ends w0 s q S t tr _ qs ht hS hT hC hn hns (by simp [tnOf,kindP,h]) hp (by omega) hkl rfl rfl h hmin hk _ 0 i rfl (by omega) hi
theorem all_ends (w0:World) (s:Nat) (S:Nat→Prop) (t:ByteArray) (ht:t.size≤100) (hS:∀ k,S k→k < s):∀ (ts:List Tr) (ps:List Nat),NodesAt w0 S ps ts→Sp.Can ts→Few ts→
  ∀ (k p:Nat) (u:Tr),ps[k]?=some p→ts[k]?=some u→∀ i,i≤t.size→EndsC w0 s t p u 0 i
 | [],_,_,_,_,k,p,u,_,h,_,_=>by simp at h
 | ⟨a,ks⟩::r,[],hT,_,_,_,_,_,_,_,_,_=>(NodesAt_no1 hT).elim
 | ⟨a,ks⟩::r,p0::ps,hT,hC,hF,k+1,p,u,h1,h2,i,hi=>by
  rw [NodesAt_cons] at hT
  rw [Sp.Can_cons] at hC
  unfold Few at hF
  exact all_ends w0 s S t ht hS r ps hT.2 hC.2.2 hF.2.2 k p u (by simpa using h1) (by simpa using h2) i hi
 | ⟨a,ks⟩::r,p0::ps,hT,hC,hF,0,p,u,h1,h2,i,hi=>by
  have hT1:NodesAt w0 S [p0] [⟨a,ks⟩]:=by
   rw [NodesAt_cons] at hT ⊢;exact⟨hT.1,NodesAt_nil _ _⟩
  have hC1:Sp.Can [⟨a,ks⟩]:=by
   rw [Sp.Can_cons] at hC ⊢;exact⟨hC.1,hC.2.1,Sp.Can_nil⟩
  rw [NodesAt_cons] at hT
  rw [Sp.Can_cons] at hC
  unfold Few at hF
  simp at h1 h2
  subst h1 h2
  obtain⟨⟨q,l,qs,g1,g2,g3,g4,g5,g6⟩,_⟩:=hT
  have kids:=all_ends w0 s S t ht hS ks qs g6 hC.2.1 hF.2.1
  have hkl:=NodesAt.length qs ks g6
  have hTb:NodesAt w0 S [q] [bare0 ⟨a,ks⟩]:=by
   show NodesAt w0 S [q] [⟨{ a with min:=-1,max:=0 },ks⟩]
   rw [NodesAt_cons]
   refine⟨⟨q,l,qs,Or.inl ⟨by show (-1:Int) < 0;omega,rfl⟩,g2,?_,g4,g5,g6⟩,NodesAt_nil _ _⟩
   have e:=psz_bare0 ⟨a,ks⟩
   have:tnOf { a with min:=-1,max:=0 } (psz (bareOf ⟨{ a with min:=-1,max:=0 },ks⟩)) l=tnOf a (psz (bareOf ⟨a,ks⟩)) l:=by
    rw [← e];rfl
   rw [this];exact g3
  have bare:∀ i,i≤t.size→EndsC w0 s t q (bare0 ⟨a,ks⟩) 0 i:=fun i hi=>
   bare_ends w0 s q S t (bare0 ⟨a,ks⟩) (psz (bareOf ⟨a,ks⟩)) l qs ht hS hTb (bare0_can hC1) g2 g3 (PartsIn.of hS g4 g5) hkl hF.1 (by show (-1:Int) < 0;omega) kids i hi
  have cl:Sp.CanL a:=hC.1.1
  rcases g1 with ⟨m1,rfl⟩|⟨m1,m2,l',t1,o1,o2⟩
  ·have e:=bare0_same (t:=⟨a,ks⟩) cl m1
   have:=bare i hi
   rw [e] at this;exact this
  ·have hp:=PartsIn.of (qs:=[q]) hS o1 o2
   rcases hp with ⟨_,h2⟩|⟨g,cap,h1,hg,hc⟩
   ·simp at h2
   ·exact turns_ends w0 s p0 q g cap S t ⟨a,ks⟩ (bare0 ⟨a,ks⟩) _ a.min.toNat a.max ht hS hT1 hC1 t1 (hS p0 m2) rfl h1 hg (hc 0 q rfl) (by show a.min=_;omega) rfl (by have:=cl.min;omega) cl.max (by have:=cl.mm m1;omega)
     (fun d i j=>by unfold Sp.spotM;rw [if_pos m1,bare0_sem]) bare _ 0 i (Nat.lt_succ_self _) hi ⟨fun _=>by omega,fun h=>by have:=cl.mm m1;have:=cl.max;omega⟩
def spArr (n:Nat) (sp:Nat→Int×Int):Array Value:=Array.ofFn (n:=2 * n) fun i=>if i.val % 2=0 then .int .i64 (sp (i.val / 2)).1 else .int .i64 (sp (i.val / 2)).2
theorem spArr_size (n:Nat) (sp:Nat→Int×Int):(spArr n sp).size=2 * n:=by simp [spArr]
theorem spArr_get (n:Nat) (sp:Nat→Int×Int) (i:Nat):(spArr n sp)[i]?=if i < 2 * n then some (if i % 2=0 then .int .i64 (sp (i / 2)).1 else .int .i64 (sp (i / 2)).2) else none:=by
 unfold spArr
 rw [Array.getElem?_ofFn]
 split<;>simp_all
def SpansAt (w:World) (g n:Nat) (sp:Nat→Int×Int):Prop:=w.heap[g]?=some (.cells (spArr n sp) 66 (0,0))
structure SpansFacts (w:World) (g n:Nat) (sp:Nat→Int×Int):Prop where
 c0:∀ k,k < n→w.cell? ⟨g,k * 2,none⟩=some (.int .i64 (sp k).1)
 c1:∀ k,k < n→w.cell? ⟨g,k * 2+1,none⟩=some (.int .i64 (sp k).2)
 fz:∀ o,w.frozen? ⟨g,o,none⟩=false
theorem SpansAt.facts {w:World} {g n:Nat} {sp:Nat→Int×Int} (h:SpansAt w g n sp):SpansFacts w g n sp:=by
 unfold SpansAt at h
 refine⟨fun k hk=>?_,fun k hk=>?_,fun o=>by simp [World.frozen?,h]⟩
 ·have e:(spArr n sp)[k * 2]?=some (.int .i64 (sp k).1):=by rw [spArr_get,if_pos (by omega),if_pos (by omega),show k * 2 / 2=k by omega]
  simp [World.cell?,h,e]
 ·have e:(spArr n sp)[k * 2+1]?=some (.int .i64 (sp k).2):=by rw [spArr_get,if_pos (by omega),if_neg (by omega),show (k * 2+1) / 2=k by omega]
  simp [World.cell?,h,e]
theorem spArr_put (n:Nat) (sp:Nat→Int×Int) (k:Nat) (hk:k < n) (a b:Int):((spArr n sp).setIfInBounds (k * 2) (.int .i64 a)).setIfInBounds (k * 2+1) (.int .i64 b)=spArr n (fun c=>if c=k then (a,b) else sp c):=by
 apply Array.ext_getElem?
 intro i
 rw [Array.getElem?_setIfInBounds,Array.getElem?_setIfInBounds,spArr_get,spArr_get]
 simp only [Array.size_setIfInBounds,spArr_size]
 by_cases h1:k * 2+1=i
 ·subst h1
  rw [if_pos rfl,if_pos (by omega),if_pos (by omega),if_neg (by omega),show (k * 2+1) / 2=k by omega]
  simp
 ·rw [if_neg h1]
  by_cases h2:k * 2=i
  ·subst h2
   rw [if_pos rfl,if_pos (by omega),if_pos (by omega),if_pos (by omega),show k * 2 / 2=k by omega]
   simp
  ·rw [if_neg h2]
   by_cases h3:i < 2 * n
   ·have h4:i / 2≠k:=by omega
    simp [h3,h4]
   ·rw [if_neg h3,if_neg h3]
theorem SpansAt.put {w:World} {g n:Nat} {sp:Nat→Int×Int} (h:SpansAt w g n sp) (k:Nat) (hk:k < n) (a b:Int):SpansAt ((w.setCell ⟨g,k * 2,none⟩ (.int .i64 a)).setCell ⟨g,k * 2+1,none⟩ (.int .i64 b)) g n (fun c=>if c=k then (a,b) else sp c):=by
 unfold SpansAt
 rw [← spArr_put n sp k hk a b]
 exact heap_set (heap_set h _ _) _ _
def spansV (g n:Nat):Value:=.slice (some ⟨g,0,none⟩) n n
set_option maxHeartbeats 800000 in
theorem mPut_any (g n k a b:Nat) (sp:Nat→Int×Int) (w:World) (h:SpansAt w g n sp) (hk:k < n) (hn:n≤1000) :
  Calls Tryz.prog 77 #[spansV g n,.int .i64 k,.int .i64 a,.int .i64 b] w fun e w'=>e=.returned (.tuple #[])∧Upd [g] w w'∧SpansAt w' g n (Sp.put sp (k,a,b)):=by
 obtain⟨c0,c1,fz⟩:=h.facts
 have HH:Hid (SpansAt w g n sp):=h
 have hg:=lt_of_heap h
 have e0:=c0 k hk
 have e1:=c1 k hk
 have hk':(k:Int) < n:=by omega
 clear h c0 c1
 unfold spansV
 go_enter Tryz.func77,Tryz.ntmps77
 go_wp2_with fail
 go_end0
 exact⟨rfl,by (repeat (first|exact Upd.refl _ _|refine Upd.drewN ?_|refine Upd.drew ?_|refine Upd.setCell ?_ (by simp) _|refine Upd.alloc ?_ _)),HH.out.put k hk a b⟩
theorem spArr_zero (n:Nat):madeCells #[.int .i64 0,.int .i64 0] (n * 2)=spArr n (fun _=>(0,0)):=by
 apply Array.ext_getElem?
 intro i
 rw [spArr_get]
 unfold madeCells
 rw [Array.getElem?_map,Array.getElem?_range]
 by_cases h:i < 2 * n
 ·rw [if_pos h,if_pos (by omega)]
  simp only [Option.map_some]
  rcases (by omega:i % 2=0∨i % 2=1) with q|q<;>simp [q]
 ·rw [if_neg h,if_neg (by omega)];rfl
theorem spArr_congr {n:Nat} {f g:Nat→Int×Int} (h:∀ k,k < n→f k=g k):spArr n f=spArr n g:=by
 apply Array.ext_getElem?
 intro i
 rw [spArr_get,spArr_get]
 by_cases q:i < 2 * n
 ·rw [if_pos q,if_pos q,h (i / 2) (by omega)]
 ·rw [if_neg q,if_neg q]
theorem SpansAt.congr {w:World} {p n:Nat} {f g:Nat→Int×Int} (h:SpansAt w p n f) (k:∀ c,c < n→f c=g c):SpansAt w p n g:=by
 unfold SpansAt at *;rw [← spArr_congr k];exact h
theorem pInfoSpan:∃ i,Tryz.prog.info? 66=some i∧i.zero=some (.agg #[.int .i64 0,.int .i64 0])∧i.size=2∧i.bytes=16:=by
 have h:(Tryz.prog.info? 66).map (fun i=>(i.zero,i.size,i.bytes))=some (some (.agg #[.int .i64 0,.int .i64 0]),2,16):=by kernel_rfl
 cases hi:Tryz.prog.info? 66 with
 | none=>rw [hi] at h;cases h
 | some i=>
  rw [hi] at h
  simp only [Option.map_some,Option.some.injEq,Prod.mk.injEq] at h
  exact⟨i,rfl,h.1,h.2.1,h.2.2⟩
theorem mkSpans (m:Nat) (hm:m≤100) (w:World):(Instr.makeSlice 166 (.int .i64 ((m:Int)+1)) (.int .i64 ((m:Int)+1))).run Tryz.prog w=.ok (.slice (some ⟨w.heap.size,0,none⟩) (m+1) (m+1)) (w.alloc (.cells (spArr (m+1) (fun _=>(0,0))) 66)):=by
 obtain⟨i,h1,h2,h3,h4⟩:=pInfoSpan
 have:=run_make w 166 66 i _ Tryz.underlying166 h1 h2 .i64 .i64 ((m:Int)+1) ((m:Int)+1) (by omega) (by omega) (by rw [h4];omega) (by omega)
 rw [this,h3,show ((m:Int)+1).toNat=m+1 by omega]
 show Result.ok _ (w.alloc (.cells (madeCells #[.int .i64 0,.int .i64 0] ((m+1) * 2)) 66))=_
 rw [spArr_zero]
structure NwInv (w:World) (n:Nat) (gn:Nat) (v:Value) (wr:World):Prop where
 st:∃ c:Nat,v=.int .i64 c∧c+gn=n∧Upd [] w wr∧SpansAt wr w.heap.size n (fun k=>if k < c then (-1,-1) else (0,0))
set_option maxHeartbeats 800000 in
theorem mNowh_any (m:Nat) (w:World) (hm:m≤100) :
  Calls Tryz.prog 75 #[.int .i64 m] w fun e w'=>e=.returned (spansV w.heap.size (m+1))∧Upd [] w w'∧SpansAt w' w.heap.size (m+1) Sp.nowh:=by
 have hmk:∀ w',(Instr.makeSlice 166 (.int .i64 ((m:Int)+1)) (.int .i64 ((m:Int)+1))).run Tryz.prog w'=.ok (.slice (some ⟨w'.heap.size,0,none⟩) (m+1) (m+1)) (w'.alloc (.cells (spArr (m+1) (fun _=>(0,0))) 66)):=mkSpans m hm
 go_enter Tryz.func75,Tryz.ntmps75
 go_wp2_with fail
 go_loopg [10] (m+1) (fun gn v wr=>NwInv w (m+1) gn v wr)
 case atStart=>exact⟨0,rfl,by omega,by (repeat (first|exact Upd.refl _ _|refine Upd.drewN ?_|refine Upd.drew ?_|refine Upd.setCell ?_ (by simp) _|refine Upd.alloc ?_ _)),heap_new rfl⟩
 case round=>
  obtain⟨c,rfl,hc,u,h⟩:=hrel.st
  obtain⟨c0,c1,fz⟩:=h.facts
  have HH:Hid (SpansAt wr w.heap.size (m+1) (fun k=>if k < c then (-1,-1) else (0,0))):=h
  have HU:Hid (Upd [] w wr):=u
  have hg:=lt_of_heap h
  by_cases hlt:c < m+1
  ·have e0:=c0 c hlt
   have e1:=c1 c hlt
   have hlt':(c:Int) < (m:Int)+1:=by omega
   obtain⟨gm,hgm⟩:∃ k,gk=k+1:=⟨gk - 1,by omega⟩
   have RL:Hid (NwInv w (m+1) gm (.int .i64 ((c+1:Nat):Int)) ((wr.setCell ⟨w.heap.size,c * 2,none⟩ (.int .i64 (-1))).setCell ⟨w.heap.size,c * 2+1,none⟩ (.int .i64 (-1)))):=by
    refine⟨c+1,rfl,by omega,u.hide (q:=w.heap.size) (by (repeat (first|exact Upd.refl _ _|refine Upd.drewN ?_|refine Upd.drew ?_|refine Upd.setCell ?_ (by simp) _|refine Upd.alloc ?_ _))) (Nat.le_refl _),(h.put c hlt (-1) (-1)).congr fun k hk=>?_⟩
    by_cases q:k=c
    ·subst q;simp
    ·by_cases q2:k < c
     ·simp [q,q2];omega
     ·simp [q,q2];omega
   clear h u c0 c1
   go_wp2_with fail
   go_roundg gm
   case measure=>omega
   case rel=>exact RL.out
  ·have hlt':¬ (c:Int) < (m:Int)+1:=by omega
   clear h u c0 c1
   go_wp2_with fail
   go_ret
   exact⟨rfl,HU.out,HH.out.congr fun k hk=>by rw [if_pos (by omega)];rfl⟩
def wkCells (s g n:Nat):Array Value:=#[.pointer (some ⟨s,0,none⟩),.func (.func 96) #[] #[],.func (.func 96) #[] #[],.func (.func 96) #[] #[],.func (.func 97) #[] #[],.func (.func 98) #[] #[],.func (.func 99) #[] #[],.func (.func 100) #[] #[],.func (.func 77) #[.slice (some ⟨g,0,none⟩) n n] #[]]
def WkAt (w:World) (v s g n:Nat):Prop:=w.heap[v]?=some (.cells (wkCells s g n) 174 (0,0))
structure WkFacts (w:World) (v s g n:Nat):Prop where
 c0:w.cell? ⟨v,0,none⟩=some (.pointer (some ⟨s,0,none⟩))
 c1:w.cell? ⟨v,1,none⟩=some (.func (.func 96) #[] #[])
 c2:w.cell? ⟨v,2,none⟩=some (.func (.func 96) #[] #[])
 c3:w.cell? ⟨v,3,none⟩=some (.func (.func 96) #[] #[])
 c4:w.cell? ⟨v,4,none⟩=some (.func (.func 97) #[] #[])
 c5:w.cell? ⟨v,5,none⟩=some (.func (.func 98) #[] #[])
 c6:w.cell? ⟨v,6,none⟩=some (.func (.func 99) #[] #[])
 c7:w.cell? ⟨v,7,none⟩=some (.func (.func 100) #[] #[])
 c8:w.cell? ⟨v,8,none⟩=some (.func (.func 77) #[.slice (some ⟨g,0,none⟩) n n] #[])
 fz:∀ o,w.frozen? ⟨v,o,none⟩=false
theorem WkAt.facts {w:World} {v s g n:Nat} (h:WkAt w v s g n):WkFacts w v s g n:=by
 unfold WkAt wkCells at h
 refine⟨?_,?_,?_,?_,?_,?_,?_,?_,?_,?_⟩<;>(try intro o)<;>simp [World.cell?,World.frozen?,h]
theorem mNewW_any (s g n:Nat) (w:World) :
  Calls Tryz.prog 76 #[ptr s,.func (.func 77) #[.slice (some ⟨g,0,none⟩) n n] #[]] w fun e w'=>e=.returned (ptr w.heap.size)∧Upd [] w w'∧WkAt w' w.heap.size s g n:=by
 unfold ptr
 go_enter Tryz.func76,Tryz.ntmps76
 go_wp2_with fail
 go_ret
 refine⟨rfl,by (repeat (first|exact Upd.refl _ _|refine Upd.drewN ?_|refine Upd.drew ?_|refine Upd.setCell ?_ (by simp) _|refine Upd.alloc ?_ _)),?_⟩
 exact heap_new rfl
structure Walk (w0:World) (s:Nat) (t:ByteArray) (g v n:Nat) (sp:Nat→Int×Int) (w:World):Prop where
 live:Live w0 s t w
 sp:SpansAt w g n sp
 wk:WkAt w v s g n
 sg:s < g
 gv:g < v
 n:n≤1000
structure GoneG (s g:Nat) (w w':World):Prop where
 os:w'.os=w.os
 tape:w'.tape=w.tape
 output:w'.output=w.output
 size:w.heap.size≤w'.heap.size
 block:∀ k,Kept s w k→k≠g→w'.heap[k]?=w.heap[k]?
theorem Gone.toG {s g:Nat} {w w':World} (h:Gone s w w'):GoneG s g w w':=⟨h.os,h.tape,h.output,h.size,fun k q _=>h.block k q⟩
theorem GoneG.kept {s g:Nat} {w w':World} (h:GoneG s g w w') {k:Nat} (q:Kept s w k) (hk:k≠g):Kept s w' k:=
 ⟨Nat.lt_of_lt_of_le q.1 h.size,q.2.1,fun hk' es ck e=>q.2.2 hk' es ck ((h.block k q hk).symm.trans e)⟩
theorem GoneG.trans {s g:Nat} {a b c:World} (h:GoneG s g a b) (k:GoneG s g b c):GoneG s g a c:=
 ⟨k.os.trans h.os,k.tape.trans h.tape,k.output.trans h.output,Nat.le_trans h.size k.size,fun i hi hg=>(k.block i (h.kept hi hg) hg).trans (h.block i hi hg)⟩
theorem GoneG.hide {s g:Nat} {l:List Nat} {a b c:World} (h:GoneG s g a b) (k:Upd l b c) (hl:∀ q,q∈l→a.heap.size≤q):GoneG s g a c:=
 ⟨k.os.trans h.os,k.tape.trans h.tape,k.output.trans h.output,Nat.le_trans h.size k.size,fun i hi hg=>(k.block i (Nat.lt_of_lt_of_le hi.1 h.size) (fun q=>by have:=hl i q;have:=hi.1;omega)).trans (h.block i hi hg)⟩
theorem Upd.toG {s g:Nat} {w w':World} (h:Upd [] w w'):GoneG s g w w':=⟨h.os,h.tape,h.output,h.size,fun k hk _=>h.block k hk.1 (by simp)⟩
theorem SpansAt.isNd {w:World} {g n:Nat} {sp:Nat→Int×Int} (h:SpansAt w g n sp):IsNd w g:=⟨_,_,h⟩
theorem WkAt.isNd {w:World} {v s g n:Nat} (h:WkAt w v s g n):IsNd w v:=⟨_,_,h⟩
theorem SpansAt.gone {s:Nat} {w w':World} {g n:Nat} {sp:Nat→Int×Int} (h:SpansAt w g n sp) (k:Gone s w w') (hg:g≠s):SpansAt w' g n sp:=(k.block g (h.isNd.kept hg)).trans h
theorem WkAt.gone {x:Nat} {w w':World} {v s g n:Nat} (h:WkAt w v s g n) (k:Gone x w w') (hv:v≠x):WkAt w' v s g n:=(k.block v (h.isNd.kept hv)).trans h
theorem SpAt.goneG {s g:Nat} {w w':World} {p:Nat} {x:Spot} (h:SpAt w p x) (k:GoneG s g w w') (hp:p≠s) (hg:p≠g):SpAt w' p x:=(k.block p (h.isNd.kept hp) hg).trans h
theorem Walk.gone {w0:World} {s:Nat} {t:ByteArray} {g v n:Nat} {sp:Nat→Int×Int} {w w':World} (h:Walk w0 s t g v n sp w) (k:Gone s w w') (l:Live w0 s t w'):Walk w0 s t g v n sp w':=
 ⟨l,h.sp.gone k (by have:=h.sg;omega),h.wk.gone k (by have:=h.sg;have:=h.gv;omega),h.sg,h.gv,h.n⟩
theorem Walk.upd {w0:World} {s:Nat} {t:ByteArray} {g v n:Nat} {sp:Nat→Int×Int} {w w':World} (h:Walk w0 s t g v n sp w) (u:Upd [] w w'):Walk w0 s t g v n sp w':=
 ⟨h.live.grow u,(u.block g (lt_of_heap h.sp) (by simp)).trans h.sp,(u.block v (lt_of_heap h.wk) (by simp)).trans h.wk,h.sg,h.gv,h.n⟩
theorem Walk.pl {w0:World} {s:Nat} {t:ByteArray} {g v n:Nat} {sp:Nat→Int×Int} {w w':World} (h:Walk w0 s t g v n sp w) {p:Nat} {f f':Nat→Bool} (u:Upd [p] w w') (hp:PlAt w p f) (hq:PlAt w' p f') (hv:v < p):Walk w0 s t g v n sp w':=
 ⟨h.live.pl u hp hq (by have:=h.sg;have:=h.gv;omega),(u.block g (lt_of_heap h.sp) (by simp;have:=h.gv;omega)).trans h.sp,(u.block v (lt_of_heap h.wk) (by simp;omega)).trans h.wk,h.sg,h.gv,h.n⟩
theorem Live.sp {w0:World} {s:Nat} {t:ByteArray} {w w':World} (h:Live w0 s t w) {p:Nat} {x y:Spot} (u:Upd [p] w w') (hp:SpAt w p x) (hq:SpAt w' p y) (hs:s < p):Live w0 s t w':=by
 refine h.upd u (by simpa using hs) (fun n hn=>?_) (fun q hq _ es ck e=>?_)
 ·by_cases hnp:n=p
  ·subst hnp;exact hq.isNd
  ·exact updW u hn (by simpa using hnp)
 ·simp at hq;subst hq;unfold SpAt at hp;rw [hp] at e;cases e
theorem Walk.spot {w0:World} {s:Nat} {t:ByteArray} {g v n:Nat} {sp:Nat→Int×Int} {w w':World} (h:Walk w0 s t g v n sp w) {p:Nat} {x y:Spot} (u:Upd [p] w w') (hp:SpAt w p x) (hq:SpAt w' p y) (hv:v < p):Walk w0 s t g v n sp w':=
 ⟨h.live.sp u hp hq (by have:=h.sg;have:=h.gv;omega),(u.block g (lt_of_heap h.sp) (by simp;have:=h.gv;omega)).trans h.sp,(u.block v (lt_of_heap h.wk) (by simp;omega)).trans h.wk,h.sg,h.gv,h.n⟩
theorem Walk.put {w0:World} {s:Nat} {t:ByteArray} {g v n:Nat} {sp sp':Nat→Int×Int} {w w':World} (h:Walk w0 s t g v n sp w) (u:Upd [g] w w') (k:SpansAt w' g n sp'):Walk w0 s t g v n sp' w':=by
 refine⟨h.live.upd u (by simp;exact h.sg) (fun m hm=>?_) (fun q hq _ es ck e=>?_),k,(u.block v (lt_of_heap h.wk) (by simp;have:=h.gv;omega)).trans h.wk,h.sg,h.gv,h.n⟩
 ·by_cases hnp:m=g
  ·subst hnp;exact k.isNd
  ·exact updW u hm (by simpa using hnp)
 ·simp at hq;subst hq;have:=h.sp;unfold SpansAt at this;rw [this] at e;cases e
theorem Upd.putG {s g:Nat} {w w':World} (u:Upd [g] w w'):GoneG s g w w':=⟨u.os,u.tape,u.output,u.size,fun k hk hg=>u.block k hk.1 (by simpa using hg)⟩
def WalkOut (w0:World) (s:Nat) (t:ByteArray) (g v n:Nat) (sp:Nat→Int×Int) (l:List Sp.Gr) (w:World) (e:Ending) (w':World):Prop:=
 e=.returned (.tuple #[])∧Walk w0 s t g v n (Sp.puts sp l) w'∧GoneG s g w w'
def ThrC (w0:World) (s:Nat) (t:ByteArray) (g v n:Nat) (p:Nat) (l:List Sp.Gr) (i j:Nat):Prop:=
 ∀ w sp,Walk w0 s t g v n sp w→Calls Tryz.prog 78 #[ptr v,ptr p,.int .i64 i,.int .i64 j] w (WalkOut w0 s t g v n sp l w)
def StepC (w0:World) (s:Nat) (t:ByteArray) (g v n:Nat) (fn p:Nat) (l:List Sp.Gr) (i j:Nat):Prop:=
 ∀ w sp,Walk w0 s t g v n sp w→Calls Tryz.prog fn #[ptr v,spotV ⟨p,0,i⟩,.int .i64 j] w (WalkOut w0 s t g v n sp l w)
theorem mThrB_any (w0:World) (s:Nat) (t:ByteArray) (g v n p i j:Nat):StepC w0 s t g v n 96 p [] i j:=by
 intro w sp h
 have H:Hid (Walk w0 s t g v n sp w):=h
 clear h
 unfold spotV ptr
 go_enter Tryz.func96,Tryz.ntmps96
 go_wp2_with fail
 go_end0
 exact⟨rfl,H.out.upd (by (repeat (first|exact Upd.refl _ _|refine Upd.drewN ?_|refine Upd.drew ?_|refine Upd.setCell ?_ (by simp) _|refine Upd.alloc ?_ _))),Upd.toG (by (repeat (first|exact Upd.refl _ _|refine Upd.drewN ?_|refine Upd.drew ?_|refine Upd.setCell ?_ (by simp) _|refine Upd.alloc ?_ _)))⟩
end Go.Proofs.YtcpfpnjkfahjcaaGreat
