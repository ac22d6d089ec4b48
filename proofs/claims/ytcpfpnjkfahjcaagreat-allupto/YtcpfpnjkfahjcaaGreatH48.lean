import Derived.Test.YtcpfpnjkfahjcaaGreatH47
import Derived.Test.YtcpfpnjkfahjcaaGreatH45
import Derived.Laws.CopyOwn
set_option linter.unusedSimpArgs false
set_option linter.unusedVariables false
namespace Go.Proofs.YtcpfpnjkfahjcaaGreat
open Go.RowKit
structure StInv (w:World) (N gn:Nat) (vi:Value) (wr:World):Prop where
 st:∃ c:Nat,vi=.int .i64 c∧c+gn=N∧∃ q,wr=w.drewN q
theorem Ent.cells {w:World} {v:Value} {z:Int} (h:Ent w v z):∃ a l c,v=.slice a l c∧l≤9223372036854775807∧∀ j,j < l→∃ g,a=some ⟨g,0,none⟩∧l≤c∧w.cell? ⟨g,j * 2,none⟩=some (.int .i64 z)∧w.cell? ⟨g,j * 2+1,none⟩=some (.int .i64 0):=by
 rcases h with ⟨c,q⟩|⟨g,l,cap,cur,q,h1,h2,h3⟩
 ·exact⟨none,0,c,q,by omega,fun j hj=>by omega⟩
 ·refine⟨some ⟨g,0,none⟩,l,cap,q,by have:=h1.2;unfold maxLen at this;omega,fun j hj=>⟨g,rfl,h1.1,?_,?_⟩⟩
  ·rw [World.cell?,h2]
   show cur[j * 2]?=_
   have e:cur.toList[j * 2]?=(flat l (fun _=>(z,0)))[j * 2]?:=by rw [← h3,List.getElem?_take_of_lt (by omega)]
   rw [flat_get,if_pos (by omega),if_pos (by omega),Array.getElem?_toList] at e
   exact e
  ·rw [World.cell?,h2]
   show cur[j * 2+1]?=_
   have e:cur.toList[j * 2+1]?=(flat l (fun _=>(z,0)))[j * 2+1]?:=by rw [← h3,List.getElem?_take_of_lt (by omega)]
   rw [flat_get,if_pos (by omega),if_neg (by omega),Array.getElem?_toList] at e
   exact e
theorem REnt.cells {w:World} {v:Value} {z:Int} (h:REnt w v z):∃ a l c,v=.slice a l c∧l≤9223372036854775807∧∀ j,j < l→∃ g,a=some ⟨g,0,none⟩∧l≤c∧g < w.heap.size∧∀ k,k < 5→w.cell? ⟨g,j * 5+k,none⟩=(markV z)[k]?:=by
 rcases h with ⟨c,q⟩|⟨g,l,cap,cur,q,h1,h2,h3⟩
 ·exact⟨none,0,c,q,by omega,fun j hj=>by omega⟩
 ·refine⟨some ⟨g,0,none⟩,l,cap,q,by have:=h1.2;unfold maxLen at this;omega,fun j hj=>⟨g,rfl,h1.1,lt_of_heap h2,fun k hk=>?_⟩⟩
  rw [World.cell?,h2]
  show cur[j * 5+k]?=_
  rw [← mks_get z l j k hj hk,← h3,List.getElem?_take_of_lt (by omega),Array.getElem?_toList]
structure StInv2 (w:World) (N gn:Nat) (vi:Value) (wr:World):Prop where
 st:∃ c:Nat,vi=.int .i64 c∧c+gn=N∧Upd [] w wr
set_option maxRecDepth 8000 in
set_option maxHeartbeats 1600000 in
theorem bStill_any (B0:Nat) (w:World) (b k kR:Nat) (n:Int) (vS vN vR vQ:Value) (es rs:List (Value×Int)) (A:BkA B0 w b k kR n vS vN vR vQ es rs) (hk:k≤60000000) (hkR:kR≤60000000):Calls Tryz.prog 14 #[.pointer (some ⟨b,0,none⟩)] w fun e w'=>e=.returned (.bool true)∧Upd [] w w':=by
 have B:=A.S
 have HA:Hid (BkA B0 w b k kR n vS vN vR vQ es rs):=A
 obtain⟨ra,rcp,hrv,hrc⟩:=row_form A.r
 obtain⟨qa,qc,hqv,hqc⟩:=row_form A.q
 subst hrv hqv
 have HB:Hid (BkAt B0 w b k n vS vN (.slice ra kR rcp) (.slice qa kR qc) es):=B
 have hlenR:rs.length=kR:=by have:=A.r.1;simpa using this
 have HLENR:Hid (rs.length=kR):=hlenR
 obtain⟨sa,sc,hsv,hsc⟩:=row_form B.s
 obtain⟨na,nc,hnv,hnc⟩:=row_form B.n
 subst hsv hnv
 have b1:w.cell? ⟨b,1,none⟩=some (.slice sa k sc):=by rw [World.cell?,B.cell];rfl
 have b2:w.cell? ⟨b,2,none⟩=some (.slice na k nc):=by rw [World.cell?,B.cell];rfl
 have b3:w.cell? ⟨b,3,none⟩=some (.slice ra kR rcp):=by rw [World.cell?,B.cell];rfl
 have b4:w.cell? ⟨b,4,none⟩=some (.slice qa kR qc):=by rw [World.cell?,B.cell];rfl
 have hlen:es.length=k:=by have:=B.s.1;simpa using this
 have HLEN:Hid (es.length=k):=hlen
 clear A B hlen hlenR
 go_enter Tryz.func14,Tryz.ntmps14
 go_wp2_with fail
 go_loopg [3] k (fun gn vi wr=>StInv w k gn vi wr)
 case atStart=>exact⟨0,rfl,by omega,0,by cases w;rfl⟩
 case round=>
  obtain⟨c,hvi,hcg,q,hq⟩:=hrel.st
  subst hvi hq
  by_cases hlt:c < k
  ·have hlt':(c:Int) < k:=by omega
   obtain⟨gm,hgm⟩:∃ x,gk=x+1:=⟨gk - 1,by omega⟩
   have hx:es[c]?=some (es[c]'(by rw [HLEN.out];exact hlt)):=List.getElem?_eq_getElem _
   generalize es[c]'(by rw [HLEN.out];exact hlt)=x at hx
   obtain⟨gs,hgs⟩:∃ g,sa=some ⟨g,0,none⟩:=by
    rcases HB.out.s.2 with ⟨p,p'⟩|⟨g,cap,cur,p,_⟩
    ·omega
    ·injection p with p1;exact⟨g,p1⟩
   obtain⟨gn,hgn⟩:∃ g,na=some ⟨g,0,none⟩:=by
    rcases HB.out.n.2 with ⟨p,p'⟩|⟨g,cap,cur,p,_⟩
    ·omega
    ·injection p with p1;exact⟨g,p1⟩
   subst hgs hgn
   have e1:w.cell? ⟨gs,c,none⟩=some x.1:=by
    have:=HB.out.s.cells (g:=gs) rfl c x.1 (by rw [List.getElem?_map,hx];rfl)
    have e0:(⟨gs,0,none⟩:Addr).add c=⟨gs,c,none⟩:=by simp [Addr.add];omega
    rw [e0] at this;exact this
   have e2:w.cell? ⟨gn,c,none⟩=some (.int .i64 x.2):=by
    have:=HB.out.n.cells (g:=gn) rfl c (.int .i64 x.2) (by rw [List.getElem?_map,hx];rfl)
    have e0:(⟨gn,0,none⟩:Addr).add c=⟨gn,c,none⟩:=by simp [Addr.add];omega
    rw [e0] at this;exact this
   obtain⟨va,vl,vc,hv,hvb,hcs⟩:=(HB.out.ent x (List.mem_of_getElem? hx)).cells
   rw [hv] at e1
   have HCS:Hid (∀ j,j < vl→∃ g,va=some ⟨g,0,none⟩∧vl≤vc∧w.cell? ⟨g,j * 2,none⟩=some (.int .i64 x.2)∧w.cell? ⟨g,j * 2+1,none⟩=some (.int .i64 0)):=hcs
   generalize x.2=z at *
   clear hx hv hcs hrel
   have hneq:=fun a b c d w=>neqSpan a b c d w
   go_wp2_with fail
   go_loopg [4] vl (fun gn vi wr=>StInv w vl gn vi wr)
   case atStart=>exact⟨0,rfl,by omega,q,rfl⟩
   case round=>
    obtain⟨j,hvj,hjg,q2,hq2⟩:=hrel.st
    subst hvj hq2
    clear hrel
    by_cases hjl:j < vl
    ·have hjl':(j:Int) < vl:=by omega
     obtain⟨gm2,hgm2⟩:∃ x,gk=x+1:=⟨gk - 1,by omega⟩
     obtain⟨ge,hge,hle,d0,d1⟩:=HCS.out j hjl
     subst hge
     go_wp2_with fail
     go_quiet (fail)
     go_wp2_with fail
     go_roundg gm2
     case measure=>omega
     case rel=>exact⟨j+1,rfl,by omega,q2+nq,rfl⟩
    ·have hjl':¬ (j:Int) < vl:=by omega
     go_wp2_with fail
     go_roundg gm
     case measure=>omega
     case rel=>exact⟨c+1,rfl,by omega,q2,rfl⟩
  ·have hlt':¬ (c:Int) < k:=by omega
   clear hrel
   go_wp2_with fail
   go_loopg [5] kR (fun gn vi wr=>StInv2 w kR gn vi wr)
   case atStart=>exact⟨0,rfl,by omega,drewN_upd _ _ _⟩
   case round=>
    obtain⟨c2,hvi2,hcg2,hu2⟩:=hrel.st
    subst hvi2
    have HU2:Hid (Upd [] w wr):=hu2
    have hbl:b < w.heap.size:=lt_of_heap HB.out.cell
    have d3:wr.cell? ⟨b,3,none⟩=some (.slice ra kR rcp):=(cell_eq (hu2.block b hbl (by simp)) _).trans b3
    have d4:wr.cell? ⟨b,4,none⟩=some (.slice qa kR qc):=(cell_eq (hu2.block b hbl (by simp)) _).trans b4
    clear hu2 hrel
    by_cases hlt2:c2 < kR
    ·have hlt2':(c2:Int) < kR:=by omega
     obtain⟨gm,hgm⟩:∃ x,gk=x+1:=⟨gk - 1,by omega⟩
     have hx:rs[c2]?=some (rs[c2]'(by rw [HLENR.out];exact hlt2)):=List.getElem?_eq_getElem _
     generalize rs[c2]'(by rw [HLENR.out];exact hlt2)=x at hx
     obtain⟨gs,hgs⟩:∃ g,ra=some ⟨g,0,none⟩:=by
      rcases HA.out.r.2 with ⟨p,p'⟩|⟨g,cap,cur,p,_⟩
      ·omega
      ·injection p with p1;exact⟨g,p1⟩
     obtain⟨gn,hgn⟩:∃ g,qa=some ⟨g,0,none⟩:=by
      rcases HA.out.q.2 with ⟨p,p'⟩|⟨g,cap,cur,p,_⟩
      ·omega
      ·injection p with p1;exact⟨g,p1⟩
     subst hgs hgn
     have e1:w.cell? ⟨gs,c2,none⟩=some x.1:=by
      have:=HA.out.r.cells (g:=gs) rfl c2 x.1 (by rw [List.getElem?_map,hx];rfl)
      have e0:(⟨gs,0,none⟩:Addr).add c2=⟨gs,c2,none⟩:=by simp [Addr.add];omega
      rw [e0] at this;exact this
     have e2:w.cell? ⟨gn,c2,none⟩=some (.int .i64 x.2):=by
      have:=HA.out.q.cells (g:=gn) rfl c2 (.int .i64 x.2) (by rw [List.getElem?_map,hx];rfl)
      have e0:(⟨gn,0,none⟩:Addr).add c2=⟨gn,c2,none⟩:=by simp [Addr.add];omega
      rw [e0] at this;exact this
     have hgsl:gs < w.heap.size:=(ownBlock_lt HA.out.r (g:=gs) rfl).1
     have hgnl:gn < w.heap.size:=(ownBlock_lt HA.out.q (g:=gn) rfl).1
     obtain⟨va,vl,vc,hv,hvb,hcs⟩:=(HA.out.ent x (List.mem_of_getElem? hx)).cells
     rw [hv] at e1
     have HCS:Hid (∀ j,j < vl→∃ g,va=some ⟨g,0,none⟩∧vl≤vc∧g < w.heap.size∧∀ k,k < 5→w.cell? ⟨g,j * 5+k,none⟩=(markV x.2)[k]?):=hcs
     have E1:Hid (w.cell? ⟨gs,c2,none⟩=some (.slice va vl vc)):=e1
     have E2:Hid (w.cell? ⟨gn,c2,none⟩=some (.int .i64 x.2)):=e2
     have f1:wr.cell? ⟨gs,c2,none⟩=some (.slice va vl vc):=(cell_eq (HU2.out.block gs hgsl (by simp)) _).trans e1
     generalize x.2=z at *
     clear hx hv hcs e1 e2 b1 b2
     go_wp2_with fail
     go_loopg [6] vl (fun gn vi wr=>StInv2 w vl gn vi wr)
     case atStart=>exact⟨0,rfl,by omega,HU2.out⟩
     case round=>
      obtain⟨j,hvj,hjg,hu3⟩:=hrel.st
      subst hvj
      have HU3:Hid (Upd [] w wr):=hu3
      have k3:wr.cell? ⟨b,3,none⟩=some (.slice (some ⟨gs,0,none⟩) kR rcp):=(cell_eq (hu3.block b hbl (by simp)) _).trans b3
      have k4:wr.cell? ⟨b,4,none⟩=some (.slice (some ⟨gn,0,none⟩) kR qc):=(cell_eq (hu3.block b hbl (by simp)) _).trans b4
      have k1:wr.cell? ⟨gs,c2,none⟩=some (.slice va vl vc):=(cell_eq (hu3.block gs hgsl (by simp)) _).trans E1.out
      have k2:wr.cell? ⟨gn,c2,none⟩=some (.int .i64 z):=(cell_eq (hu3.block gn hgnl (by simp)) _).trans E2.out
      clear hu3 hrel d3 d4 f1
      by_cases hjl:j < vl
      ·have hjl':(j:Int) < vl:=by omega
       obtain⟨gm2,hgm2⟩:∃ x,gk=x+1:=⟨gk - 1,by omega⟩
       obtain⟨ge,hge,hle,hgel,hce⟩:=HCS.out j hjl
       subst hge
       have m0:wr.cell? ⟨ge,j * 5,none⟩=some (.int .i64 z):=(cell_eq (HU3.out.block ge hgel (by simp)) _).trans (hce 0 (by omega))
       have m1:wr.cell? ⟨ge,j * 5+1,none⟩=some (.int .i64 0):=(cell_eq (HU3.out.block ge hgel (by simp)) _).trans (hce 1 (by omega))
       have m2:wr.cell? ⟨ge,j * 5+2,none⟩=some (.int .i64 0):=(cell_eq (HU3.out.block ge hgel (by simp)) _).trans (hce 2 (by omega))
       have m3:wr.cell? ⟨ge,j * 5+3,none⟩=some (.int .i64 0):=(cell_eq (HU3.out.block ge hgel (by simp)) _).trans (hce 3 (by omega))
       have m4:wr.cell? ⟨ge,j * 5+4,none⟩=some (.slice none 0 0):=(cell_eq (HU3.out.block ge hgel (by simp)) _).trans (hce 4 (by omega))
       clear hce
       go_wp2_with fail
       have UX:Hid (Upd [] w (wr.alloc (.cells #[.int .i64 z,.int .i64 0,.int .i64 0,.int .i64 0,.slice none 0 0] 94))):=HU3.out.trans (Upd.alloc (Upd.refl _ _) _)
       have HX:Hid ((wr.alloc (.cells #[.int .i64 z,.int .i64 0,.int .i64 0,.int .i64 0,.slice none 0 0] 94)).heap[wr.heap.size]?=some (.cells #[.int .i64 z,.int .i64 0,.int .i64 0,.int .i64 0,.slice none 0 0] 94 (0,0))):=heap_new rfl
       clear k1 k2 k3 k4 m0 m1 m2 m3 m4
       generalize hX:wr.heap.size=X at *
       generalize wr.alloc (.cells #[.int .i64 z,.int .i64 0,.int .i64 0,.int .i64 0,.slice none 0 0] 94)=wx at *
       have k4:wx.cell? ⟨b,4,none⟩=some (.slice (some ⟨gn,0,none⟩) kR qc):=(cell_eq (UX.out.block b hbl (by simp)) _).trans b4
       have k2:wx.cell? ⟨gn,c2,none⟩=some (.int .i64 z):=(cell_eq (UX.out.block gn hgnl (by simp)) _).trans E2.out
       obtain⟨frx,xx⟩:=recCells HX.out
       have m0:wx.cell? ⟨X,0,none⟩=some (.int .i64 z):=xx 0
       have m1:wx.cell? ⟨X,1,none⟩=some (.int .i64 0):=xx 1
       have m2:wx.cell? ⟨X,2,none⟩=some (.int .i64 0):=xx 2
       have m3:wx.cell? ⟨X,3,none⟩=some (.int .i64 0):=xx 3
       have m4:wx.cell? ⟨X,4,none⟩=some (.slice none 0 0):=xx 4
       clear xx
       go_quiet (fail)
       go_wp2_with fail
       go_roundg gm2
       case measure=>omega
       case rel=>exact⟨j+1,rfl,by omega,UX.out.trans (by (repeat (first|exact Upd.refl _ _|refine Upd.drewN ?_|refine Upd.drew ?_|refine Upd.setCell ?_ (by simp) _|refine Upd.alloc ?_ _)))⟩
      ·have hjl':¬ (j:Int) < vl:=by omega
       go_wp2_with fail
       go_roundg gm
       case measure=>omega
       case rel=>exact⟨c2+1,rfl,by omega,HU3.out⟩
    ·have hlt2':¬ (c2:Int) < kR:=by omega
     go_wp2_with fail
     go_ret
     exact⟨rfl,HU2.out⟩
structure Tw where
 s:Nat
 c:Nat
 g:Nat
 h:Nat
 cap:Nat
 r:Nat
 p:Nat
 q:Nat
 src:ByteArray
 t:Tr
 n:Nat
 lim:Nat
 cu:Sp.Cu
 A:ByteArray
 cl:Bool
def Tw.blks (x:Tw):List Nat:=[x.s,x.c,x.g,x.r]
structure TwAt (B0:Nat) (w:World) (x:Tw):Prop where
 op:x.cl=false→StAt w x.s x.c∧CuSt w x.c x.p x.lim x.g x.h x.cap x.cu∧RsAt w x.r x.q x.lim x.A x.cu.frm x.cu.num false
 sh:x.cl=true→StShut w x.s∧∃ told num,RsAt w x.r x.q x.lim x.A told num true
 lt:∀ k,k∈x.blks→B0≤k∧k < w.heap.size∧∃ T,TyIs w k T∧strT T=true
 pat:PatAt w x.p x.t x.n
 rf:RfPat w x.q x.src x.t x.n
 str:Sp.StrAt x.lim x.A.data.toList x.A.size x.cu
 fit:x.cu.fit x.lim
 lim:x.lim≤100
 num:x.cu.num≤x.A.size
structure Sf (B0:Nat) (l:List Nat) (w w':World):Prop where
 os:w'.os=w.os
 tape:w'.tape=w.tape
 output:w'.output=w.output
 size:w.heap.size≤w'.heap.size
 block:∀ k,k < w.heap.size→k∉l→(k < B0∨∃ T,TyIs w k T∧bokT T=false)→w'.heap[k]?=w.heap[k]?
theorem Sf.refl (B0:Nat) (l:List Nat) (w:World):Sf B0 l w w:=⟨rfl,rfl,rfl,Nat.le_refl _,fun _ _ _ _=>rfl⟩
theorem Sf.trans {B0:Nat} {l:List Nat} {a b c:World} (h:Sf B0 l a b) (k:Sf B0 l b c):Sf B0 l a c:=
 ⟨k.os.trans h.os,k.tape.trans h.tape,k.output.trans h.output,Nat.le_trans h.size k.size,fun q hq hn hc=>(k.block q (Nat.lt_of_lt_of_le hq h.size) hn (by
  rcases hc with e|⟨T,⟨x,hx⟩,hT⟩
  ·exact Or.inl e
  ·exact Or.inr ⟨T,⟨x,(h.block q hq hn (Or.inr ⟨T,⟨x,hx⟩,hT⟩)).trans hx⟩,hT⟩)).trans (h.block q hq hn hc)⟩
theorem Sf.of {B0:Nat} {l:List Nat} {w w':World} (u:Upd l w w'):Sf B0 l w w':=⟨u.os,u.tape,u.output,u.size,fun k hk hn _=>u.block k hk hn⟩
theorem Sf.bf {B0:Nat} {l:List Nat} {w w':World} (u:Bf B0 w w'):Sf B0 l w w':=⟨u.os,u.tape,u.output,u.size,fun k hk _ hc=>u.block k hk hc⟩
theorem Sf.new {B0:Nat} {l l':List Nat} {w w1 w':World} (h:Sf B0 l w w1) (k:Sf B0 l' w1 w') (hl:∀ q,q∈l'→q∈l∨w.heap.size≤q):Sf B0 l w w':=
 ⟨k.os.trans h.os,k.tape.trans h.tape,k.output.trans h.output,Nat.le_trans h.size k.size,fun q hq hn hc=>(k.block q (Nat.lt_of_lt_of_le hq h.size) (fun hm=>by
  rcases hl q hm with e|e
  ·exact hn e
  ·omega) (by
  rcases hc with e|⟨T,⟨x,hx⟩,hT⟩
  ·exact Or.inl e
  ·exact Or.inr ⟨T,⟨x,(h.block q hq hn (Or.inr ⟨T,⟨x,hx⟩,hT⟩)).trans hx⟩,hT⟩)).trans (h.block q hq hn hc)⟩
theorem Sf.pat {B0:Nat} {l:List Nat} {w w':World} (h:Sf B0 l w w') (hl:LTy strT w l):∀ k,PatTy w k→w'.heap[k]?=w.heap[k]?:=fun k ⟨T,h1,h2⟩=>
 h.block k h1.lt (fun hm=>by obtain⟨U,e1,e2⟩:=hl k hm;rw [TyIs.uniq e1 h1,strT_not T h2] at e2;cases e2) (Or.inr ⟨T,h1,bokT_not T h2⟩)
theorem strT_is {T:TypeId} (h:strT T=true):T=103∨T=147∨T=5∨T=105:=by
 simpa [strT,or_assoc] using h
theorem str_bok {T:TypeId} (h:strT T=true):bokT T=false:=by rcases strT_is h with rfl|rfl|rfl|rfl<;>rfl
theorem TwAt.keep {B0:Nat} {w w':World} {x:Tw} {l:List Nat} (h:TwAt B0 w x) (u:Sf B0 l w w') (hl:LTy strT w l) (hd:∀ k,k∈x.blks→k∉l):TwAt B0 w' x:=by
 have hb:∀ k,k∈x.blks→w'.heap[k]?=w.heap[k]?:=fun k hk=>by
  obtain⟨_,h2,T,h3,h4⟩:=h.lt k hk
  exact u.block k h2 (hd k hk) (Or.inr ⟨T,h3,str_bok h4⟩)
 have hs:=hb x.s (by simp [Tw.blks])
 have hc:=hb x.c (by simp [Tw.blks])
 have hg:=hb x.g (by simp [Tw.blks])
 have hr:=hb x.r (by simp [Tw.blks])
 refine⟨fun e=>?_,fun e=>?_,fun k hk=>?_,h.pat.frame (u.pat hl),h.rf.frame (u.pat hl),h.str,h.fit,h.lim,h.num⟩
 ·obtain⟨a1,a2,a3⟩:=h.op e
  exact⟨hs.trans a1,CuAt.blocks a2 hc (fun k hk=>by simp [Value.ownBlock] at hk;rw [← hk];exact hg),hr.trans a3⟩
 ·obtain⟨a1,told,num,a2⟩:=h.sh e
  exact⟨hs.trans a1,told,num,hr.trans a2⟩
 ·obtain⟨h1,h2,T,⟨a,ha⟩,h4⟩:=h.lt k hk
  exact⟨h1,Nat.lt_of_lt_of_le h2 u.size,T,⟨a,(hb k hk).trans ha⟩,h4⟩
def TwO (B0:Nat) (w:World):Option Tw→Prop
 | none=>True
 | some x=>TwAt B0 w x
def blkO:Option Tw→List Nat
 | none=>[]
 | some x=>x.blks
def twV:Option Tw→List Value
 | none=>[.pointer none,.pointer none]
 | some x=>[.pointer (some ⟨x.s,0,none⟩),.pointer (some ⟨x.r,0,none⟩)]
structure TwTo (B0:Nat) (w:World) (o o':Option Tw) (d:Nat) (w':World):Prop where
 at':TwO B0 w' o'
 row:twV o'=twV o
 blk:∀ k,k∈blkO o'→k∈blkO o∨w.heap.size≤k
 len:∀ x x',o=some x→o'=some x'→x'.A.size≤x.A.size+d
section
variable {P:Program}
theorem run_copy_str (w:World) (dT sT ty elem:TypeId) (g dLen dCap:Nat) (s:ByteArray) (cur:Array Value) (t:TypeId) (hu:P.underlying dT=some (.slice elem)) (hs:(P.info? elem).map (·.size)=some 1) (hg:w.heap[g]?=some (.cells cur t (0,0))) (hd:s.size≤dLen) (hfit:s.size≤cur.size) :
  (Builtin.copy_ #[dT,sT] ty #[.slice (some ⟨g,0,none⟩) dLen dCap,.string s]).run P w=.ok (goInt s.size) (w.setRow g ((s.data.toList.map byteV)++cur.toList.drop s.size).toArray):=by
 have hl:(s.data.toList.map byteV).length=s.size:=by rw [List.length_map,Array.length_toList];rfl
 have hst:=run_storeCells_at P g 0 t (s.data.toList.map byteV) 0 cur w hg (by rw [hl];omega) bytes_one
 rw [hl] at hst
 simp only [Nat.zero_add,List.take_zero,List.nil_append] at hst
 cases hq:P.info? elem with
 | none=>simp [hq] at hs
 | some i=>
  have hi:i.size=1:=by simpa [hq] using hs
  have hn:Nat.min s.size dLen=s.size:=Nat.min_eq_left hd
  simp [Builtin.copy_,run_underlying hu,Builtin.lenOf,Builtin.firstCells,sizeOf,typeInfo,hq,hi,hn]
  have e:List.take s.size (List.map (fun b:UInt8=>Value.int .u8 b.toNat) s.data.toList)=s.data.toList.map byteV:=List.take_of_length_le (by rw [List.length_map,Array.length_toList];exact Nat.le_refl _)
  rw [e,hst]
  rfl
end
def InAt (w:World) (g:Nat) (L:List UInt8):Prop:=w.heap[g]?=some (.cells (L.map byteV).toArray 5 (0,0))
theorem InAt.ty {w:World} {g:Nat} {L:List UInt8} (h:InAt w g L):TyIs w g 5:=⟨_,h⟩
theorem InAt.cell {w:World} {g j:Nat} {L:List UInt8} {x:UInt8} (h:InAt w g L) (hj:L[j]?=some x):w.cell? ⟨g,j,none⟩=some (.int .u8 x.toNat):=by
 rw [World.cell?,h]
 show (L.map byteV).toArray[j]?=_
 rw [List.getElem?_toArray,List.getElem?_map,hj];rfl
theorem InAt.fz {w:World} {g:Nat} {L:List UInt8} (h:InAt w g L) (o:Nat):w.frozen? ⟨g,o,none⟩=false:=by
 rw [World.frozen?,h];rfl
theorem InAt.set {w:World} {g j:Nat} {L:List UInt8} (h:InAt w g L) (x:UInt8):InAt (w.setCell ⟨g,j,none⟩ (.int .u8 x.toNat)) g (L.set j x):=by
 have e:=heap_set h j (.int .u8 x.toNat)
 show _=_
 rw [e]
 congr 2
 rw [List.setIfInBounds_toArray,List.map_set];rfl
theorem InAt.bytes {w:World} {g:Nat} {K L:List UInt8} (h:InAt w g (K++L)):BytesAt w g 0 K:=fun j x hx=>by
 rw [Nat.zero_add]
 exact h.cell (by rw [List.getElem?_append_left (List.getElem?_eq_some_iff.mp hx).1];exact hx)
theorem InAt.upd {w w':World} {g:Nat} {L:List UInt8} {l:List Nat} (h:InAt w g L) (u:Upd l w w') (hl:g∉l):InAt w' g L:=(u.block g (lt_of_heap h) hl).trans h
def xO:Option Tw→Option Addr
 | none=>none
 | some x=>some ⟨x.s,0,none⟩
def rO:Option Tw→Option Addr
 | none=>none
 | some x=>some ⟨x.r,0,none⟩
theorem StrAt.feed {lim:Nat} {S:List UInt8}:∀ (K:List UInt8) (i:Nat) (cu:Sp.Cu),Sp.StrAt lim S i cu→(∀ j x,K[j]?=some x→S[i+j]?=some x)→Sp.StrAt lim S (i+K.length) (Sp.feedC lim cu K)
 | [],i,cu,h,_=>h
 | x::K,i,cu,h,hK=>by
  have h0:S[i]?=some x:=hK 0 x rfl
  have hK':∀ j y,K[j]?=some y→S[i+1+j]?=some y:=fun j y hy=>by
   have:=hK (j+1) y (by simpa using hy)
   rw [show i+1+j=i+(j+1) by omega];exact this
  rw [Sp.feedC,show i+(x::K).length=i+1+K.length by simp;omega]
  split
  ·exact StrAt.feed K (i+1) _ h.next hK'
  ·exact StrAt.feed K (i+1) _ (h.take h0) hK'
theorem TwAt.keep0 {B0:Nat} {w w':World} {x:Tw} (h:TwAt B0 w x) (u:Upd [] w w'):TwAt B0 w' x:=h.keep (Sf.of u) (LTy.nil _ _) (by simp)
theorem TwO.keep0 {B0:Nat} {w w':World} {o:Option Tw} (h:TwO B0 w o) (u:Upd [] w w'):TwO B0 w' o:=by
 cases o with
 | none=>trivial
 | some x=>exact TwAt.keep0 h u
def FeedsTo (B0:Nat) (o:Option Tw) (K:List UInt8) (w5:World) (Z cp nn:Nat) (rs:List Sp.Rec) (code:Int):Prop:=
 nn≤20∧rs.length≤K.length∧Calls Tryz.prog 31 #[.pointer (xO o),.slice (some ⟨Z,0,none⟩) K.length cp] w5 fun e w6=>∃ v,e=.returned (.tuple #[v,.int .i64 code])∧RecsAt w6 w5.heap.size v nn rs∧Upd (blkO o) w5 w6∧∀ w7 b2 cp2,Upd [] w6 w7→BytesAt w7 b2 0 K→Calls Tryz.prog 57 #[.pointer (rO o),.slice (some ⟨b2,0,none⟩) K.length cp2] w7 fun e w8=>∃ v2,e=.returned (.tuple #[v2,.int .i64 code])∧RecsAt w8 w7.heap.size v2 nn rs∧Upd (blkO o) w7 w8∧∃ o',TwTo B0 w5 o o' K.length w8
theorem TwTo.same {B0 d:Nat} {w w':World} {o:Option Tw} (h:TwO B0 w' o) (hw:w.heap.size≤w'.heap.size):TwTo B0 w o o d w':=
 ⟨h,rfl,fun k hk=>Or.inl hk,fun x x' e e'=>by rw [e] at e';injection e' with e';subst e';omega⟩
theorem feedP (B0:Nat) (o:Option Tw) (K:List UInt8) (w5:World) (Z cp:Nat) (hw:TwO B0 w5 o) (hB:BytesAt w5 Z 0 K) (hZ:Z < w5.heap.size) (hn:Z∉blkO o) (hcp:K.length≤cp) (hsz:∀ x,o=some x→x.A.size+K.length≤1048576):∃ nn rs code,FeedsTo B0 o K w5 Z cp nn rs code:=by
 cases o with
 | none=>
  refine⟨0,[],1,by omega,Nat.zero_le _,(stFeed_nil _ w5).mono ?_⟩
  rintro e w6 ⟨rfl,u6⟩
  refine⟨_,rfl,RecsAt.nil _ _ _ u6.size,u6,fun w7 b2 cp2 u7 B7=>(rFeed_nil _ w7).mono ?_⟩
  rintro e w8 ⟨rfl,u8⟩
  exact⟨_,rfl,RecsAt.nil _ _ _ u8.size,u8,none,TwTo.same trivial (Nat.le_trans u6.size (Nat.le_trans u7.size u8.size))⟩
 | some x=>
  have hx:TwAt B0 w5 x:=hw
  cases hcl:x.cl with
  | true=>
   obtain⟨a1,told,num,a2⟩:=hx.sh hcl
   refine⟨0,[],9,by omega,Nat.zero_le _,(stFeed_shut x.s _ w5 a1).mono ?_⟩
   rintro e w6 ⟨rfl,u6⟩
   refine⟨_,rfl,RecsAt.nil _ _ _ u6.size,u6.mono (by simp),fun w7 b2 cp2 u7 B7=>?_⟩
   have U:=u6.trans u7
   refine (rFeed_shut x.r x.q x.lim told num x.A _ w7 ((U.block x.r (lt_of_heap a2) (by simp)).trans a2)).mono ?_
   rintro e w8 ⟨rfl,u8⟩
   exact⟨_,rfl,RecsAt.nil _ _ _ u8.size,u8.mono (by simp),some x,TwTo.same (TwAt.keep0 hx (U.trans u8)) (U.trans u8).size⟩
  | false=>
   obtain⟨a1,a2,a3⟩:=hx.op hcl
   have tS:TyIs w5 x.s 103:=⟨_,a1⟩
   have tC:TyIs w5 x.c 147:=CuAt.ty a2
   have tG:TyIs w5 x.g 5:=CuAt.tyg a2
   have tR:TyIs w5 x.r 105:=RsAt.ty a3
   have hs:=hsz x rfl
   have hsum:=hx.str.sum
   have hnum:=hx.num
   have hn9:=hx.rf.nine
   have lcg:LTy strT w5 [x.c,x.g]:=LTy.cons tC rfl (LTy.cons tG rfl (LTy.nil _ _))
   have hn':Z≠x.s∧Z≠x.c∧Z≠x.g∧Z≠x.r:=by simpa [blkO,Tw.blks] using hn
   refine⟨x.n+1,Sp.feedR (apartS x.t x.lim) x.lim x.cu K,0,by omega,Sp.feedR_length _ _ _ _,(stFeed_any x.s x.c x.p x.lim x.g x.h x.cap x.t x.n Z 0 cp x.cu K w5 hx.lim (by omega) hcp (by omega) (by omega) hx.fit hB a1 a2 (fun w2 u=>hx.pat.frame (u.pat lcg strT_not)) hZ hn'.2.1 hn'.2.2.1).mono ?_⟩
   rintro e w6 ⟨v,rfl,F⟩
   obtain⟨g',h',cap',hg',C6⟩:=F.cut
   have nsc:x.s∉[x.c,x.g]:=by simp;exact⟨tS.ne tC (by decide),tS.ne tG (by decide)⟩
   have nrc:x.r∉[x.c,x.g]:=by simp;exact⟨tR.ne tC (by decide),tR.ne tG (by decide)⟩
   have S6:StAt w6 x.s x.c:=(F.upd.block x.s tS.lt nsc).trans a1
   have R6:RsAt w6 x.r x.q x.lim x.A x.cu.frm x.cu.num false:=(F.upd.block x.r tR.lt nrc).trans a3
   have P6:PatAt w6 x.p x.t x.n:=hx.pat.frame (F.upd.pat lcg strT_not)
   have Q6:RfPat w6 x.q x.src x.t x.n:=hx.rf.frame (F.upd.pat lcg strT_not)
   refine⟨v,rfl,F.recs,F.upd.mono (by simp [blkO,Tw.blks]),fun w7 b2 cp2 u7 B7=>?_⟩
   have R7:RsAt w7 x.r x.q x.lim x.A x.cu.frm x.cu.num false:=(u7.block x.r (lt_of_heap R6) (by simp)).trans R6
   have Q7:=Q6.upd u7
   refine (rFeed_any x.r x.q x.lim x.n b2 0 K.length cp2 x.A x.cu x.src x.t K w7 hx.lim (by omega) hx.num rfl B7 R7 hx.str Q7).mono ?_
   rintro e w8 ⟨v2,rfl,V8,R8,u8⟩
   have lr:LTy strT w7 [x.r]:=LTy.cons (RsAt.ty R7) rfl (LTy.nil _ _)
   have S7:StAt w7 x.s x.c:=(u7.block x.s (lt_of_heap S6) (by simp)).trans S6
   have C7:CuSt w7 x.c x.p x.lim g' h' cap' (Sp.feedC x.lim x.cu K):=CuAt.blocks C6 (u7.block x.c (lt_of_heap C6.cell) (by simp)) (fun k hk=>u7.block k (ownBlock_lt C6.held hk).1 (by simp))
   have nsr:x.s∉[x.r]:=by simp;exact TyIs.ne (⟨_,S7⟩:TyIs w7 x.s 103) (RsAt.ty R7) (by decide)
   have ncr:x.c∉[x.r]:=by simp;exact TyIs.ne (CuAt.ty C7) (RsAt.ty R7) (by decide)
   have ngr:g'∉[x.r]:=by simp;exact TyIs.ne (CuAt.tyg C7) (RsAt.ty R7) (by decide)
   have S8:StAt w8 x.s x.c:=(u8.block x.s (lt_of_heap S7) nsr).trans S7
   have C8:CuSt w8 x.c x.p x.lim g' h' cap' (Sp.feedC x.lim x.cu K):=CuAt.blocks C7 (u8.block x.c (lt_of_heap C7.cell) ncr) (fun k hk=>u8.block k (ownBlock_lt C7.held hk).1 (by simp [Value.ownBlock] at hk;rw [← hk];exact ngr))
   have hb0:=(hx.lt x.s (by simp [Tw.blks])).1
   have hsl:=tS.lt
   refine⟨v2,rfl,V8,u8.mono (by simp [blkO,Tw.blks]),some { x with g:=g',h:=h',cap:=cap',cu:=Sp.feedC x.lim x.cu K,A:=x.A++str K },⟨?_,rfl,?_,?_⟩⟩
   ·have hz:(x.A++str K).size=x.A.size+K.length:=by rw [ByteArray.size_append,Sp.str_size]
    refine⟨fun _=>⟨S8,C8,R8⟩,fun e=>(by rw [hcl] at e;cases e),?_,(P6.upd u7).frame (u8.pat lr strT_not),Q7.frame (u8.pat lr strT_not),?_,Sp.fit_feed _ _ _ hx.fit,hx.lim,?_⟩
    ·intro k hk
     have hk':k=x.s∨k=x.c∨k=g'∨k=x.r:=by simpa [Tw.blks] using hk
     rcases hk' with rfl|rfl|rfl|rfl
     ·exact⟨hb0,lt_of_heap S8,_,⟨_,S8⟩,rfl⟩
     ·exact⟨(hx.lt x.c (by simp [Tw.blks])).1,lt_of_heap C8.cell,_,CuAt.ty C8,rfl⟩
     ·have hB0:B0≤k:=by
       rcases hg' with e|e
       ·rw [e];exact (hx.lt x.g (by simp [Tw.blks])).1
       ·omega
      exact⟨hB0,(CuAt.tyg C8).lt,_,CuAt.tyg C8,rfl⟩
     ·exact⟨(hx.lt x.r (by simp [Tw.blks])).1,lt_of_heap R8,_,RsAt.ty R8,rfl⟩
    ·show Sp.StrAt x.lim (x.A++str K).data.toList (x.A++str K).size (Sp.feedC x.lim x.cu K)
     rw [hz]
     refine StrAt.feed K x.A.size x.cu ?_ (fun j y hy=>strK_at x.A K j y hy)
     rw [strK_list];exact StrAt.more hx.str (by rw [Array.length_toList];exact Nat.le_refl _)
    ·show (Sp.feedC x.lim x.cu K).num≤(x.A++str K).size
     rw [hz]
     have h1:=feed_num (ap:=apartS x.t x.lim) (lim:=x.lim) (j:=K.length) (cu:=x.cu) (K:=K)
     rw [List.take_length] at h1
     omega
   ·intro k hk
    have hk':k=x.s∨k=x.c∨k=g'∨k=x.r:=by simpa [blkO,Tw.blks] using hk
    rcases hk' with rfl|rfl|rfl|rfl
    ·left;simp [blkO,Tw.blks]
    ·left;simp [blkO,Tw.blks]
    ·rcases hg' with e|e
     ·left;rw [e];simp [blkO,Tw.blks]
     ·exact Or.inr e
    ·left;simp [blkO,Tw.blks]
   ·intro y y' e e'
    injection e with e
    injection e' with e'
    subst e e'
    show (x.A++str K).size≤x.A.size+K.length
    rw [ByteArray.size_append,Sp.str_size];exact Nat.le_refl _
def ClosesTo (B0:Nat) (o:Option Tw) (w5:World) (nn:Nat) (rs:List Sp.Rec) (code:Int):Prop:=
 nn≤20∧rs.length≤1∧Calls Tryz.prog 32 #[.pointer (xO o)] w5 fun e w6=>∃ v,e=.returned (.tuple #[v,.int .i64 code])∧RecsAt w6 w5.heap.size v nn rs∧Upd (blkO o) w5 w6∧∀ w7,Upd [] w6 w7→Calls Tryz.prog 39 #[.pointer (rO o)] w7 fun e w8=>∃ v2,e=.returned (.tuple #[v2,.int .i64 code])∧RecsAt w8 w7.heap.size v2 nn rs∧Upd (blkO o) w7 w8∧∃ o',TwTo B0 w5 o o' 0 w8
theorem closeP (B0:Nat) (o:Option Tw) (w5:World) (hw:TwO B0 w5 o) (hsz:∀ x,o=some x→x.A.size≤1048576):∃ nn rs code,ClosesTo B0 o w5 nn rs code:=by
 cases o with
 | none=>
  refine⟨0,[],1,by omega,Nat.zero_le _,(stClose_nil w5).mono ?_⟩
  rintro e w6 ⟨rfl,u6⟩
  refine⟨_,rfl,RecsAt.nil _ _ _ u6.size,u6,fun w7 u7=>(rClose_nil w7).mono ?_⟩
  rintro e w8 ⟨rfl,u8⟩
  exact⟨_,rfl,RecsAt.nil _ _ _ u8.size,u8,none,TwTo.same trivial (Nat.le_trans u6.size (Nat.le_trans u7.size u8.size))⟩
 | some x=>
  have hx:TwAt B0 w5 x:=hw
  cases hcl:x.cl with
  | true=>
   obtain⟨a1,told,num,a2⟩:=hx.sh hcl
   refine⟨0,[],9,by omega,Nat.zero_le _,(stClose_shut x.s w5 a1).mono ?_⟩
   rintro e w6 ⟨rfl,u6⟩
   refine⟨_,rfl,RecsAt.nil _ _ _ u6.size,u6.mono (by simp),fun w7 u7=>?_⟩
   have U:=u6.trans u7
   refine (rClose_shut x.r x.q x.lim told num x.A w7 ((U.block x.r (lt_of_heap a2) (by simp)).trans a2)).mono ?_
   rintro e w8 ⟨rfl,u8⟩
   exact⟨_,rfl,RecsAt.nil _ _ _ u8.size,u8.mono (by simp),some x,TwTo.same (TwAt.keep0 hx (U.trans u8)) (U.trans u8).size⟩
  | false=>
   obtain⟨a1,a2,a3⟩:=hx.op hcl
   have tS:TyIs w5 x.s 103:=⟨_,a1⟩
   have tC:TyIs w5 x.c 147:=CuAt.ty a2
   have tG:TyIs w5 x.g 5:=CuAt.tyg a2
   have tR:TyIs w5 x.r 105:=RsAt.ty a3
   have hs:=hsz x rfl
   have hsum:=hx.str.sum
   have hnum:=hx.num
   have hn9:=hx.rf.nine
   have lcs:LTy strT w5 [x.c,x.s]:=LTy.cons tC rfl (LTy.cons tS rfl (LTy.nil _ _))
   refine⟨x.n+1,Sp.closeR (apartS x.t x.lim) x.cu,0,by omega,by unfold Sp.closeR;split<;>simp,(stClose_any x.s x.c x.p x.lim x.g x.h x.cap x.t x.n x.cu w5 hx.lim (by omega) (by omega) hx.fit a1 a2 hx.pat).mono ?_⟩
   rintro e w6 ⟨v,rfl,F,S6⟩
   have nrc:x.r∉[x.c,x.s]:=by simp;exact⟨tR.ne tC (by decide),tR.ne tS (by decide)⟩
   have R6:RsAt w6 x.r x.q x.lim x.A x.cu.frm x.cu.num false:=(F.upd.block x.r tR.lt nrc).trans a3
   have P6:PatAt w6 x.p x.t x.n:=hx.pat.frame (F.upd.pat lcs strT_not)
   have Q6:RfPat w6 x.q x.src x.t x.n:=hx.rf.frame (F.upd.pat lcs strT_not)
   refine⟨v,rfl,F.recs,F.upd.mono (by simp [blkO,Tw.blks]),fun w7 u7=>?_⟩
   have R7:RsAt w7 x.r x.q x.lim x.A x.cu.frm x.cu.num false:=(u7.block x.r (lt_of_heap R6) (by simp)).trans R6
   have Q7:=Q6.upd u7
   refine (rClose_any x.r x.q x.lim x.n x.A x.cu x.src x.t w7 hx.lim (by omega) hx.num hx.str R7 Q7).mono ?_
   rintro e w8 ⟨v2,rfl,V8,⟨told,num,R8⟩,u8⟩
   have lr:LTy strT w7 [x.r]:=LTy.cons (RsAt.ty R7) rfl (LTy.nil _ _)
   have S7:StShut w7 x.s:=(u7.block x.s (lt_of_heap S6) (by simp)).trans S6
   have nsr:x.s∉[x.r]:=by simp;exact TyIs.ne (⟨_,S7⟩:TyIs w7 x.s 103) (RsAt.ty R7) (by decide)
   have S8:StShut w8 x.s:=(u8.block x.s (lt_of_heap S7) nsr).trans S7
   have hsl:=tS.lt
   refine⟨v2,rfl,V8,u8.mono (by simp [blkO,Tw.blks]),some { x with c:=x.s,g:=x.s,cl:=true },⟨?_,rfl,?_,?_⟩⟩
   ·refine⟨fun e=>(by cases e),fun _=>⟨S8,told,num,R8⟩,?_,(P6.upd u7).frame (u8.pat lr strT_not),Q7.frame (u8.pat lr strT_not),hx.str,hx.fit,hx.lim,hx.num⟩
    intro k hk
    have hk':k=x.s∨k=x.r:=by
     have:k=x.s∨k=x.s∨k=x.s∨k=x.r:=by simpa [Tw.blks] using hk
     omega
    rcases hk' with rfl|rfl
    ·exact⟨(hx.lt x.s (by simp [Tw.blks])).1,lt_of_heap S8,_,⟨_,S8⟩,rfl⟩
    ·exact⟨(hx.lt x.r (by simp [Tw.blks])).1,lt_of_heap R8,_,RsAt.ty R8,rfl⟩
   ·intro k hk
    have hk':k=x.s∨k=x.r:=by
     have:k=x.s∨k=x.s∨k=x.s∨k=x.r:=by simpa [blkO,Tw.blks] using hk
     omega
    rcases hk' with rfl|rfl
    ·left;simp [blkO,Tw.blks]
    ·left;simp [blkO,Tw.blks]
   ·intro y y' e e'
    injection e with e
    injection e' with e'
    subst e e'
    exact Nat.le_refl _
theorem heldP (B0:Nat) (o:Option Tw) (w:World) (hw:TwO B0 w o) (hsz:∀ x,o=some x→x.A.size≤1048576):∃ (m:Nat) (code:Int),Calls Tryz.prog 37 #[.pointer (xO o)] w (fun e w'=>e=.returned (.tuple #[.int .i64 m,.int .i64 code])∧Upd [] w w')∧∀ w2,Upd [] w w2→Calls Tryz.prog 38 #[.pointer (rO o)] w2 (fun e w'=>e=.returned (.tuple #[.int .i64 m,.int .i64 code])∧Upd [] w2 w'):=by
 cases o with
 | none=>exact⟨0,1,stHeld_nil w,fun w2 _=>rHeld_nil w2⟩
 | some x=>
  have hx:TwAt B0 w x:=hw
  cases hcl:x.cl with
  | true=>
   obtain⟨a1,told,num,a2⟩:=hx.sh hcl
   exact⟨0,0,stHeld_shut x.s w a1,fun w2 u=>rHeld_shut x.r x.q x.lim told num x.A w2 ((u.block x.r (lt_of_heap a2) (by simp)).trans a2)⟩
  | false=>
   obtain⟨a1,a2,a3⟩:=hx.op hcl
   have hs:=hsz x rfl
   exact⟨x.cu.held.length,0,stHeld_any x.s x.c x.p x.lim x.g x.h x.cap x.cu w a1 a2,fun w2 u=>rHeld_any x.r x.q x.lim x.A x.cu w2 hx.lim (by omega) hx.str hx.fit ((u.block x.r (lt_of_heap a3) (by simp)).trans a3)⟩
end Go.Proofs.YtcpfpnjkfahjcaaGreat
