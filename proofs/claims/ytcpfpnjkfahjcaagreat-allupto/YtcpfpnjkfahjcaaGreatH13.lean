import Derived.Test.YtcpfpnjkfahjcaaGreatH12
import Derived.Test.YtcpfpnjkfahjcaaGreatH02
set_option linter.unusedSimpArgs false
set_option linter.unusedVariables false
namespace Go.Proofs.YtcpfpnjkfahjcaaGreat
open Go.RowKit
/-! A memory holds one tree at a place. -/
theorem TN.inj {a b:TN} (h:tnCells a=tnCells b):a=b:=by
 obtain⟨a1,a2,a3,a4,a5,a6,a7,a8,a9,a10,a11,a12⟩:=a
 obtain⟨b1,b2,b3,b4,b5,b6,b7,b8,b9,b10,b11,b12⟩:=b
 simp [tnCells] at h
 obtain⟨rfl,rfl,rfl,rfl,rfl,rfl,rfl,rfl,rfl,rfl,rfl,rfl⟩:=h
 rfl
theorem TnAt.inj {w:World} {p:Nat} {a b:TN} (h:TnAt w p a) (k:TnAt w p b):a=b:=by
 have e:some (Obj.cells (tnCells a) 120 (0,0))=some (Obj.cells (tnCells b) 120 (0,0)):=h.symm.trans k
 injection e with e
 injection e with e
 exact TN.inj e
theorem ptr_inj {a b:Nat} (h:ptr a=ptr b):a=b:=by simpa [ptr] using h
theorem own_inj {w:World} {e:TypeId} {l:Value} {qs qs':List Nat} (h:w.ownsRow 0 e 1 l qs.length (qs.map ptr)) (k:w.ownsRow 0 e 1 l qs'.length (qs'.map ptr)):qs=qs':=by
 have hm:qs.map ptr=qs'.map ptr:=by
  rcases h with ⟨h1,⟨h2,h3⟩|⟨g,cap,cur,h2,_,h4,_,_,_,h5⟩⟩<;>rcases k with ⟨k1,⟨k2,k3⟩|⟨g',cap',cur',k2,_,k4,_,_,_,k5⟩⟩
  ·have a:qs=[]:=List.eq_nil_of_length_eq_zero h3
   have b:qs'=[]:=List.eq_nil_of_length_eq_zero k3
   rw [a,b]
  ·rw [h2] at k2;cases k2
  ·rw [h2] at k2;cases k2
  ·rw [h2] at k2
   simp at k2
   obtain⟨rfl,hn,rfl⟩:=k2
   rw [h4] at k4
   simp at k4
   subst k4
   rw [← h5,← k5,hn]
 exact List.map_inj_right (fun a b h=>ptr_inj h) |>.mp hm
theorem word_eq {f g:Nat→Bool} {b:Nat} (h:word f b 64=word g b 64) (i:Nat) (hi:i < 64):f (b+i)=g (b+i):=by
 rw [← word_bit f b 64 i hi,← word_bit g b 64 i hi,h]
theorem lab_inj {a b:Lab} {x y:Int} {l m:Value} (ha:Sp.CanL a) (hb:Sp.CanL b) (h:tnOf a x l=tnOf b y m) (hmin:a.min=b.min) (hmax:a.max=b.max):a=b:=by
 simp only [tnOf,TN.mk.injEq] at h
 obtain⟨hk,_,_,hby,h0,h1,h2,h3,hn,hnum,_,_⟩:=h
 have hk:a.kind=b.kind:=by
  have:=ha.kind;have:=hb.kind
  unfold kindP at hk;split at hk<;>split at hk<;>omega
 obtain⟨k,by1,s1,n1,t1,nu1,mi1,ma1⟩:=a
 obtain⟨k',by2,s2,n2,t2,nu2,mi2,ma2⟩:=b
 simp only at hk hmin hmax;subst hk hmin hmax
 have hby':by1=by2:=by
  by_cases q:k=0
  ·simp [q] at hby;omega
  ·have e1:=ha.byte q;have e2:=hb.byte q;simp only at e1 e2;rw [e1,e2]
 have hnum':nu1=nu2:=by
  by_cases q:k=3
  ·simp [q] at hnum;omega
  ·have e1:=ha.num q;have e2:=hb.num q;simp only at e1 e2;rw [e1,e2]
 subst hby' hnum'
 have ht:t1=t2:=by have e1:=ha.told;have e2:=hb.told;simp only at e1 e2;rw [e1,e2]
 subst ht
 have hn':n1=n2:=by
  by_cases q:k=2
  ·simp only [q] at hn;simpa using hn
  ·have e1:=ha.not q;have e2:=hb.not q;simp only at e1 e2;rw [e1,e2]
 subst hn'
 have hs:s1=s2:=by
  rcases (by omega:k=0∨k=1∨k=2∨2 < k) with q|q|q|q
  ·have e1:=(ha.s0 q).2;have e2:=(hb.s0 q).2;simp only at e1 e2;rw [e1,e2]
  ·have e1:=ha.s1 q;have e2:=hb.s1 q;simp only at e1 e2;rw [e1,e2]
  ·have e1:=ha.s2 q;have e2:=hb.s2 q
   simp only at e1 e2
   simp only [wordP,if_pos q,Nat.mul_zero,Nat.mul_one] at h0 h1 h2 h3
   funext c
   by_cases hc:c < 256
   ·obtain⟨j,i,hj,hi,rfl⟩:∃ j i,j < 4∧i < 64∧c=64 * j+i:=⟨c / 64,c % 64,by omega,by omega,by omega⟩
    rcases (by omega:j=0∨j=1∨j=2∨j=3) with rfl|rfl|rfl|rfl
    ·exact word_eq (b:=64 * 0) (by exact_mod_cast h0) i hi
    ·exact word_eq (b:=64 * 1) (by exact_mod_cast h1) i hi
    ·exact word_eq (b:=64 * 2) (by exact_mod_cast h2) i hi
    ·exact word_eq (b:=64 * 3) (by exact_mod_cast h3) i hi
   ·have f1:s1 c=false:=by cases q':s1 c;rfl;exact absurd (e1 c q') hc
    have f2:s2 c=false:=by cases q':s2 c;rfl;exact absurd (e2 c q') hc
    rw [f1,f2]
  ·have e1:=ha.s3 q;have e2:=hb.s3 q;simp only at e1 e2;rw [e1,e2]
 rw [hs]
theorem kindP_ne {k:Nat} (h:k≤5):kindP k≠4:=by unfold kindP;split<;>omega
theorem NodesAt.uniq {w:World} {S S':Nat→Prop}:∀ (ps:List Nat) (ts us:List Tr),NodesAt w S ps ts→NodesAt w S' ps us→Sp.Can ts→Sp.Can us→ts=us
 | [],[],[],_,_,_,_=>rfl
 | [],[],_::_,_,h,_,_=>(NodesAt_no1 h).elim
 | _::_,_::_,[],_,h,_,_=>(NodesAt_no2 h).elim
 | [],_::_,_,h,_,_,_=>(NodesAt_no1 h).elim
 | _::_,[],_,h,_,_,_=>(NodesAt_no2 h).elim
 | p::ps,⟨a,ks⟩::r,⟨b,ls⟩::r',h,k,ch,ck=>by
  rw [NodesAt_cons] at h k
  rw [Sp.Can_cons] at ch ck
  obtain⟨⟨q,l,qs,h1,h2,h3,h4,h5,h6⟩,h7⟩:=h
  obtain⟨⟨q',l',qs',k1,k2,k3,k4,k5,k6⟩,k7⟩:=k
  have ca:=ch.1.1
  have cb:=ck.1.1
  simp only at ca cb
  have er:=NodesAt.uniq ps r r' h7 k7 ch.2.2 ck.2.2
  have key:q=q'∧a.min=b.min∧a.max=b.max:=by
   rcases h1 with ⟨m1,rfl⟩|⟨m1,_,l1,t1,o1,_⟩<;>rcases k1 with ⟨m2,rfl⟩|⟨m2,_,l2,t2,o2,_⟩
   ·have:=ca.cnt m1;have:=cb.cnt m2;exact⟨rfl,by omega,by omega⟩
   ·have e:=congrArg TN.kind (h3.inj t2)
    exact absurd e (kindP_ne ca.kind)
   ·have e:=congrArg TN.kind (t1.inj k3)
    exact absurd e.symm (kindP_ne cb.kind)
   ·have e:=t1.inj t2
    simp only [tnTurns,TN.mk.injEq] at e
    obtain⟨_,_,rfl,_,_,_,_,_,_,_,e1,e2⟩:=e
    have:=own_inj (qs:=[q]) (qs':=[q']) o1 o2
    exact⟨by simpa using this,e1,e2⟩
  obtain⟨rfl,hmin,hmax⟩:=key
  have e:=h3.inj k3
  have hl:l=l':=congrArg TN.parts e
  subst hl
  have hq:=own_inj h4 k4
  subst hq
  have ek:=NodesAt.uniq qs ks ls h6 k6 ch.2.1 ck.2.1
  have ea:=lab_inj ca cb e hmin hmax
  rw [er,ek,ea]
theorem NodesAt.uniq1 {w:World} {S S':Nat→Prop} {p:Nat} {t u:Tr} (h:NodesAt w S [p] [t]) (k:NodesAt w S' [p] [u]) (ch:Sp.Can [t]) (ck:Sp.Can [u]):t=u:=by
 have:=NodesAt.uniq [p] [t] [u] h k ch ck;simpa using this
end Go.Proofs.YtcpfpnjkfahjcaaGreat
