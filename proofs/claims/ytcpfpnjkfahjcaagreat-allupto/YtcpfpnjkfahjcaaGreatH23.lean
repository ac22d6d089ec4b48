import Derived.Test.YtcpfpnjkfahjcaaGreatH22
set_option linter.unusedSimpArgs false
set_option linter.unusedVariables false
namespace Go.Proofs.YtcpfpnjkfahjcaaGreat
open Go.RowKit
def BlAt (w:World) (c:Nat):Prop:=w.heap[c]?=some (.cells #[.pointer none,.int .i64 0,.int .i64 0] 140 (0,0))
structure BlFacts (w:World) (c:Nat):Prop where
 e0:w.cell? ⟨c,0,none⟩=some (.pointer none)
 e1:w.cell? ⟨c,1,none⟩=some (.int .i64 0)
 e2:w.cell? ⟨c,2,none⟩=some (.int .i64 0)
 fz:∀ o,w.frozen? ⟨c,o,none⟩=false
theorem BlAt.facts {w:World} {c:Nat} (h:BlAt w c):BlFacts w c:=by
 unfold BlAt at h
 refine⟨?_,?_,?_,?_⟩<;>(try intro o)<;>simp [World.cell?,World.frozen?,h]
theorem BlAt.store {w:World} {c:Nat} (h:BlAt w c) (x:Spot):SpAt (((w.setCell ⟨c,0,none⟩ (.pointer (some ⟨x.n,0,none⟩))).setCell ⟨c,1,none⟩ (.int .i64 x.d)).setCell ⟨c,2,none⟩ (.int .i64 x.f)) c x:=heap_set (heap_set (heap_set h 0 _) 1 _) 2 _
theorem SpAt.store {w:World} {c:Nat} {y:Spot} (h:SpAt w c y) (x:Spot):SpAt (((w.setCell ⟨c,0,none⟩ (.pointer (some ⟨x.n,0,none⟩))).setCell ⟨c,1,none⟩ (.int .i64 x.d)).setCell ⟨c,2,none⟩ (.int .i64 x.f)) c x:=heap_set (heap_set (heap_set h 0 _) 1 _) 2 _
theorem Walk.bl {w0:World} {s:Nat} {t:ByteArray} {g v n:Nat} {sp:Nat→Int×Int} {w w':World} (h:Walk w0 s t g v n sp w) {p:Nat} {y:Spot} (u:Upd [p] w w') (hp:BlAt w p) (hq:SpAt w' p y) (hv:v < p):Walk w0 s t g v n sp w':=by
 have hl:Live w0 s t w':=by
  refine h.live.upd u (by simp;have:=h.sg;have:=h.gv;omega) (fun n hn=>?_) (fun q hq _ es ck e=>?_)
  ·by_cases hnp:n=p
   ·subst hnp;exact hq.isNd
   ·exact updW u hn (by simpa using hnp)
  ·simp at hq;subst hq;unfold BlAt at hp;rw [hp] at e;cases e
 exact⟨hl,(u.block g (lt_of_heap h.sp) (by simp;have:=h.gv;omega)).trans h.sp,(u.block v (lt_of_heap h.wk) (by simp;omega)).trans h.wk,h.sg,h.gv,h.n⟩
def ThrFOut (w0:World) (s:Nat) (t:ByteArray) (g v n:Nat) (sp:Nat→Int×Int) (l:List Sp.Gr) (x:Spot) (w:World) (e:Ending) (w':World):Prop:=
 e=.returned (spotV x)∧Walk w0 s t g v n (Sp.puts sp l) w'∧GoneG s g w w'
def FirstC (w0:World) (s:Nat) (t:ByteArray) (g v n:Nat) (p:Nat) (x:Spot) (j k:Nat):Prop:=
 ∀ w sp,Walk w0 s t g v n sp w→Calls Tryz.prog 122 #[ptr v,spotV x,ptr p,.int .i64 j] w (FirstOut w0 s t k w)
set_option maxHeartbeats 1600000 in
theorem mThrF_any (w0:World) (s:Nat) (t:ByteArray) (g v nn n p d i j k:Nat) (sp:Nat→Int×Int) (l:List Sp.Gr) (a:TN) (w:World) (h:Walk w0 s t g v nn sp w) (hd:d < 1000) (hn:TnAt w0 n a) (hns:n < s) (hl:0≤a.least)
  (h1:FirstC w0 s t g v nn p ⟨n,d,i⟩ j k) (h2:ThrC w0 s t g v nn p l i k) :
  Calls Tryz.prog 114 #[ptr v,spotV ⟨n,d,i⟩,ptr p,.int .i64 j] w (ThrFOut w0 s t g v nn sp l ⟨n,nextD a d,k⟩ w):=by
 have H1:Hid (FirstC w0 s t g v nn p ⟨n,d,i⟩ j k):=h1
 have H2:Hid (ThrC w0 s t g v nn p l i k):=h2
 have HN:Hid (TnAt w0 n a):=hn
 have HW:Hid (Walk w0 s t g v nn sp w):=h
 have hs:=h.live.lt
 have hsg:=h.sg
 have hgl:=lt_of_heap h.sp
 have C1:Hid (SpAt ((w.alloc (.cells #[.pointer (some ⟨n,0,none⟩),.int .i64 d,.int .i64 i] 140)).alloc (.cells #[.pointer none,.int .i64 0,.int .i64 0] 140)) w.heap.size ⟨n,d,i⟩):=(SpAt.new rfl).alloc _
 clear h h1 h2 hn
 unfold spotV ptr
 go_enter Tryz.func114,Tryz.ntmps114
 go_wp2_with fail
 refine (H1.out _ sp (HW.out.upd (by (repeat (first|exact Upd.refl _ _|refine Upd.drewN ?_|refine Upd.drew ?_|refine Upd.setCell ?_ (by simp) _|refine Upd.alloc ?_ _))))).mono ?_
 rintro e w1 ⟨rfl,g1,l1⟩
 have W1:Hid (Walk w0 s t g v nn sp w1):=Walk.gone (HW.out.upd (by (repeat (first|exact Upd.refl _ _|refine Upd.drewN ?_|refine Upd.drew ?_|refine Upd.setCell ?_ (by simp) _|refine Upd.alloc ?_ _)))) g1 l1
 have G1:Hid (GoneG s g w w1):=(Upd.toG (by (repeat (first|exact Upd.refl _ _|refine Upd.drewN ?_|refine Upd.drew ?_|refine Upd.setCell ?_ (by simp) _|refine Upd.alloc ?_ _)))).trans g1.toG
 have c1:=SpAt.gone (by exact C1.out) g1 (by omega)
 have S1:Hid (SpAt w1 w.heap.size ⟨n,d,i⟩):=c1
 have c2:BlAt w1 (w.heap.size+1):=(g1.block (w.heap.size+1) (IsNd.kept ⟨_,_,heap_new (by simp)⟩ (by omega))).trans (heap_new (by simp))
 have S2:Hid (BlAt w1 (w.heap.size+1)):=c2
 obtain⟨x0,x1,x2,xz⟩:=c1.facts
 have y1:=lt_of_heap c2
 clear g1 l1 c1 c2
 go_wp2_with fail
 refine (H2.out _ sp W1.out).mono ?_
 rintro e w2 ⟨rfl,h2,g2⟩
 have W2:Hid (Walk w0 s t g v nn (Sp.puts sp l) w2):=h2
 have G2:Hid (GoneG s g w w2):=G1.out.trans g2
 have c1:=S1.out.goneG g2 (by omega) (by omega)
 have c2:BlAt w2 (w.heap.size+1):=(g2.block (w.heap.size+1) (IsNd.kept ⟨_,_,S2.out⟩ (by omega)) (by omega)).trans S2.out
 have S3:Hid (BlAt w2 (w.heap.size+1)):=c2
 obtain⟨x0,x1,x2,xz⟩:=c1.facts
 clear h2 g2 c1 c2
 go_wp2_with fail
 refine (mNext_any n d i k a _ (W2.out.live.tn HN.out hns) hd hl).mono ?_
 rintro e w3 ⟨rfl,u3⟩
 have W3:Hid (Walk w0 s t g v nn (Sp.puts sp l) w3):=W2.out.upd u3
 have G3:Hid (GoneG s g w w3):=G2.out.hide u3 (by simp)
 have S4:Hid (BlAt w3 (w.heap.size+1)):=(u3.block _ (lt_of_heap S3.out) (by simp)).trans S3.out
 clear u3
 obtain⟨z0,z1,z2,zz⟩:=S4.out.facts
 unfold spotV
 go_wp2_with fail
 refine bodyPost_ret (v:=.agg #[.pointer (some ⟨n,0,none⟩),.int .i64 (nextD a d),.int .i64 k]) (by simp [results,Tryz.results114,go_sem,z0,z1,z2,zz]) rfl ?_
 have u9:Upd [w.heap.size+1] w3 (((w3.setCell ⟨w.heap.size+1,0,none⟩ (.pointer (some ⟨n,0,none⟩))).setCell ⟨w.heap.size+1,1,none⟩ (.int .i64 (nextD a d))).setCell ⟨w.heap.size+1,2,none⟩ (.int .i64 k)):=by (repeat (first|exact Upd.refl _ _|refine Upd.drewN ?_|refine Upd.drew ?_|refine Upd.setCell ?_ (by simp) _|refine Upd.alloc ?_ _))
 exact⟨rfl,W3.out.bl u9 S4.out (S4.out.store ⟨n,nextD a d,k⟩) (by have:=lt_of_heap HW.out.wk;omega),G3.out.hide u9 (by simp)⟩
def PieceC (w0:World) (s:Nat) (t:ByteArray) (g v nn:Nat) (p n d d' i j k:Nat) (l:List Sp.Gr):Prop:=
 ∀ w sp,Walk w0 s t g v nn sp w→Calls Tryz.prog 114 #[ptr v,spotV ⟨n,d,i⟩,ptr p,.int .i64 j] w (ThrFOut w0 s t g v nn sp l ⟨n,d',k⟩ w)
structure RwInv (w0:World) (s:Nat) (t:ByteArray) (g v nn:Nat) (w:World) (sp:Nat→Int×Int) (n:Nat) (tr:Tr) (len i j:Nat) (gn:Nat) (val:Value) (wr:World):Prop where
 st:∃ c k:Nat,∃ sp',val=.int .i64 c∧c+gn=len∧k≤j∧Sp.spotM t tr c k j=true∧Walk w0 s t g v nn sp' wr∧GoneG s g w wr∧SpAt wr w.heap.size ⟨n,c,k⟩∧
  Sp.puts sp' (Sp.spotG t tr c k j)=Sp.puts sp (Sp.spotG t tr 0 i j)
set_option maxHeartbeats 1600000 in
theorem mThrR_some (w0:World) (s:Nat) (t:ByteArray) (g v nn n b cap i j:Nat) (qs:List Nat) (tr:Tr) (a:TN) (hn:TnAt w0 n a) (hns:n < s) (hp:a.parts=.slice (some ⟨b,0,none⟩) qs.length cap) (hb:b < s) (hql:qs.length≤1000) (hkl:qs.length=tr.kids.length) (hc:∀ (k q:Nat),qs[k]?=some q→w0.cell? ⟨b,k,none⟩=some (ptr q))
  (hkk:tr.lab.kind=5) (hmin:tr.lab.min < 0) (hij:i≤j) (hm:Sp.spotM t tr 0 i j=true)
  (h1:∀ (c q:Nat) (u:Tr) (k k':Nat),qs[c]?=some q→tr.kids[c]?=some u→k≤j→Sp.greatest (fun x=>(Sp.sem t u).m k x && Sp.spotM t tr (c+1) x j) k j=some k'→PieceC w0 s t g v nn q n c (c+1) k j k' ((Sp.sem t u).g k k')) :
  StepC w0 s t g v nn 99 n (Sp.spotG t tr 0 i j) i j:=by
 intro w sp h
 have hs:=h.live.lt
 have n0:n < w.heap.size:=by omega
 have n1:n < w.heap.size+1:=by omega
 obtain⟨c0,c1,c2,c3,c4,c5,c6,c7,c8,c9,c10,c11,fz⟩:=(h.live.tn hn hns).facts
 rw [hp] at c2
 have HW:Hid (Walk w0 s t g v nn sp w):=h
 have HC:Hid (∀ (k q:Nat),qs[k]?=some q→w0.cell? ⟨b,k,none⟩=some (ptr q)):=hc
 have H1:Hid (∀ (c q:Nat) (u:Tr) (k k':Nat),qs[c]?=some q→tr.kids[c]?=some u→k≤j→Sp.greatest (fun x=>(Sp.sem t u).m k x && Sp.spotM t tr (c+1) x j) k j=some k'→PieceC w0 s t g v nn q n c (c+1) k j k' ((Sp.sem t u).g k k')):=h1
 have HI:Hid (RwInv w0 s t g v nn w sp n tr qs.length i j qs.length (.int .i64 0) (w.alloc (.cells #[.pointer (some ⟨n,0,none⟩),.int .i64 ((0:Nat):Int),.int .i64 i] 140))):=
  ⟨0,i,sp,rfl,by omega,hij,hm,h.upd (by (repeat (first|exact Upd.refl _ _|refine Upd.drewN ?_|refine Upd.drew ?_|refine Upd.setCell ?_ (by simp) _|refine Upd.alloc ?_ _))),Upd.toG (by (repeat (first|exact Upd.refl _ _|refine Upd.drewN ?_|refine Upd.drew ?_|refine Upd.setCell ?_ (by simp) _|refine Upd.alloc ?_ _))),SpAt.new rfl,rfl⟩
 have hsg:=h.sg
 have hgl:=lt_of_heap h.sp
 have hvl:=lt_of_heap h.wk
 have HKL:Hid (qs.length=tr.kids.length):=hkl
 have HKK:Hid (tr.lab.kind=5∧tr.lab.min < 0):=⟨hkk,hmin⟩
 have hql':(qs.length:Int)≤1000:=by omega
 clear h hn hc h1 hm hkl hkk hmin
 unfold spotV ptr
 go_enter Tryz.func99,Tryz.ntmps99
 go_wp2_with fail
 go_loopg [14] qs.length (fun gn v' wr=>RwInv w0 s t g v nn w sp n tr qs.length i j gn v' wr)
 case atStart=>exact HI.out
 case round=>
  obtain⟨c,k,sp',rfl,hcl,hkj,hm,wk,gr,sr,hp'⟩:=hrel.st
  have WR:Hid (Walk w0 s t g v nn sp' wr):=wk
  have GR:Hid (GoneG s g w wr):=gr
  have SR:Hid (SpAt wr w.heap.size ⟨n,c,k⟩):=sr
  have HP:Hid (Sp.puts sp' (Sp.spotG t tr c k j)=Sp.puts sp (Sp.spotG t tr 0 i j)):=hp'
  have yC:=lt_of_heap sr
  obtain⟨e0,e1,e2,ez⟩:=sr.facts
  by_cases hlt:c < qs.length
  ·obtain⟨q,hq⟩:∃ q,qs[c]?=some q:=⟨_,List.getElem?_eq_getElem hlt⟩
   obtain⟨u,hu⟩:∃ u,tr.kids[c]?=some u:=⟨_,List.getElem?_eq_getElem (by have:=HKL.out;omega)⟩
   have hcell:wr.cell? ⟨b,c,none⟩=some (.pointer (some ⟨q,0,none⟩)):=wk.live.cell (HC.out c q hq) hb
   obtain⟨k',hk1,hk2⟩:=Sp.row_next HKK.out.2 HKK.out.1 hu hm
   have HE:Hid (PieceC w0 s t g v nn q n c (c+1) k j k' ((Sp.sem t u).g k k')):=H1.out c q u k k' hq hu hkj hk1
   have HK2:Hid (Sp.spotG t tr c k j=(Sp.sem t u).g k k'++Sp.spotG t tr (c+1) k' j):=hk2
   have HG:Hid (k'≤j∧Sp.spotM t tr (c+1) k' j=true):=by
    have r:=Sp.greatest_some hk1
    have r3:=r.2.2.1
    rw [Bool.and_eq_true] at r3
    exact⟨r.2.1,r3.2⟩
   obtain⟨gm,hgm⟩:∃ k,gk=k+1:=⟨gk - 1,by omega⟩
   have hlt':(c:Int) < qs.length:=by omega
   clear wk gr sr hp' hm hk1 hk2 hq hu
   go_wp2_with fail
   refine (HE.out _ sp' WR.out).mono ?_
   rintro e w4 ⟨rfl,h4,g4⟩
   have c4:=SR.out.goneG g4 (by omega) (by omega)
   obtain⟨x0,x1,x2,xz⟩:=c4.facts
   have y4:=lt_of_heap c4
   have u9:Upd [w.heap.size] w4 (((w4.setCell ⟨w.heap.size,0,none⟩ (.pointer (some ⟨n,0,none⟩))).setCell ⟨w.heap.size,1,none⟩ (.int .i64 ((c+1:Nat):Int))).setCell ⟨w.heap.size,2,none⟩ (.int .i64 k')):=by (repeat (first|exact Upd.refl _ _|refine Upd.drewN ?_|refine Upd.drew ?_|refine Upd.setCell ?_ (by simp) _|refine Upd.alloc ?_ _))
   have RL:Hid (RwInv w0 s t g v nn w sp n tr qs.length i j gm (.int .i64 ((c+1:Nat):Int)) (((w4.setCell ⟨w.heap.size,0,none⟩ (.pointer (some ⟨n,0,none⟩))).setCell ⟨w.heap.size,1,none⟩ (.int .i64 ((c+1:Nat):Int))).setCell ⟨w.heap.size,2,none⟩ (.int .i64 k'))):=by
    refine⟨c+1,k',Sp.puts sp' ((Sp.sem t u).g k k'),rfl,by omega,HG.out.1,HG.out.2,h4.spot u9 c4 (c4.store ⟨n,c+1,k'⟩) (by omega),(GR.out.trans g4).hide u9 (by simp),c4.store ⟨n,c+1,k'⟩,?_⟩
    rw [← HP.out,HK2.out,Sp.puts_append]
   clear h4 g4 c4 u9
   unfold spotV
   go_wp2_with fail
   go_roundg gm
   case measure=>omega
   case rel=>exact RL.out
  ·have hlt':¬ (c:Int) < qs.length:=by omega
   have HO:Hid (Sp.spotG t tr c k j=[]):=Sp.row_over HKK.out.2 HKK.out.1 (by have:=HKL.out;omega)
   clear wk gr sr hp' hm
   go_wp2_with fail
   go_end0
   refine⟨rfl,?_,GR.out⟩
   rw [← HP.out,HO.out];exact WR.out
set_option maxHeartbeats 1600000 in
theorem mThrR_nil (w0:World) (s:Nat) (t:ByteArray) (g v nn n i j:Nat) (a:TN) (hn:TnAt w0 n a) (hns:n < s) (hp:a.parts=.slice none 0 0) :
  StepC w0 s t g v nn 99 n [] i j:=by
 intro w sp h
 have hs:=h.live.lt
 have n0:n < w.heap.size:=by omega
 have n1:n < w.heap.size+1:=by omega
 obtain⟨c0,c1,c2,c3,c4,c5,c6,c7,c8,c9,c10,c11,fz⟩:=(h.live.tn hn hns).facts
 rw [hp] at c2
 have HW:Hid (Walk w0 s t g v nn sp w):=h
 clear h hn
 unfold spotV ptr
 go_enter Tryz.func99,Tryz.ntmps99
 go_wp2_with fail
 refine wp_loop_rounds 1 ?_
 rw [rounds_succ]
 go_wp2_with fail
 go_end0
 exact⟨rfl,HW.out.upd (by (repeat (first|exact Upd.refl _ _|refine Upd.drewN ?_|refine Upd.drew ?_|refine Upd.setCell ?_ (by simp) _|refine Upd.alloc ?_ _))),Upd.toG (by (repeat (first|exact Upd.refl _ _|refine Upd.drewN ?_|refine Upd.drew ?_|refine Upd.setCell ?_ (by simp) _|refine Upd.alloc ?_ _)))⟩
structure Cc (w0:World) (s:Nat) (t:ByteArray) (g v nn:Nat) (sp:Nat→Int×Int) (w:World) (x:Spot) (m f:Nat→Bool) (w1:World):Prop where
 walk:Walk w0 s t g v nn sp w1
 gone:Gone s w w1
 sp:SpAt w1 w.heap.size x
 ans:∀ j,j≤t.size→f j=m j
theorem Cc.mk' {w0:World} {s:Nat} {t:ByteArray} {g v nn:Nat} {sp:Nat→Int×Int} {w wr W:World} {x:Spot} {m f:Nat→Bool} {w1:World} (hs:s < w.heap.size) (h:Walk w0 s t g v nn sp wr) (gr:Gone s w wr) (c:SpAt wr w.heap.size x) (u:Upd [] wr W) (g1:Gone s W w1) (l1:Live w0 s t w1) (hf:∀ j,j≤t.size→f j=m j):Cc w0 s t g v nn sp w x m f w1:=
 ⟨(h.upd u).gone g1 l1,(gr.trans (u.gone (by simp))).trans g1,(c.upd u (by simp)).gone g1 (by omega),hf⟩
structure Ce (w0:World) (s:Nat) (t:ByteArray) (g v nn:Nat) (sp:Nat→Int×Int) (w:World) (x:Spot) (m f:Nat→Bool) (q:Nat) (wx:World):Prop where
 c:Cc w0 s t g v nn sp w x m f wx
 pl:PlAt wx q f
theorem Ce.new {w0:World} {s:Nat} {t:ByteArray} {g v nn:Nat} {sp:Nat→Int×Int} {w:World} {x:Spot} {m f:Nat→Bool} {w1:World} (h:Cc w0 s t g v nn sp w x m f w1):Ce w0 s t g v nn sp w x m f w1.heap.size (w1.alloc (.cells #[.int .u64 (word f 0 64),.int .u64 (word f 64 64)] 137)):=by
 have u:Upd [] w1 (w1.alloc (.cells #[.int .u64 (word f 0 64),.int .u64 (word f 64 64)] 137)):=by (repeat (first|exact Upd.refl _ _|refine Upd.drewN ?_|refine Upd.drew ?_|refine Upd.setCell ?_ (by simp) _|refine Upd.alloc ?_ _))
 exact⟨⟨h.walk.upd u,h.gone.hide u (by simp),h.sp.upd u (by simp),h.ans⟩,heap_new rfl⟩
theorem Ce.old {w0:World} {s:Nat} {t:ByteArray} {g v nn:Nat} {sp:Nat→Int×Int} {w:World} {x:Spot} {m f:Nat→Bool} {w1:World} {q:Nat} (h:Cc w0 s t g v nn sp w x m f w1) (p:PlAt w1 q (fun _=>false)) (hq:w.heap.size < q) (hv:v < w.heap.size):Ce w0 s t g v nn sp w x m f q ((w1.setCell ⟨q,0,none⟩ (.int .u64 (word f 0 64))).setCell ⟨q,1,none⟩ (.int .u64 (word f 64 64))):=by
 have u:Upd [q] w1 ((w1.setCell ⟨q,0,none⟩ (.int .u64 (word f 0 64))).setCell ⟨q,1,none⟩ (.int .u64 (word f 64 64))):=by (repeat (first|exact Upd.refl _ _|refine Upd.drewN ?_|refine Upd.drew ?_|refine Upd.setCell ?_ (by simp) _|refine Upd.alloc ?_ _))
 exact⟨⟨h.walk.pl u p p.store (by omega),h.gone.hide u (by simp;omega),h.sp.upd u (by simp;omega),h.ans⟩,p.store⟩
structure CwInv (w0:World) (s:Nat) (t:ByteArray) (g v nn:Nat) (w:World) (sp:Nat→Int×Int) (n:Nat) (l:List Sp.Sem) (len i j:Nat) (gn:Nat) (val:Value) (wr:World):Prop where
 st:∃ c:Nat,val=.int .i64 c∧c+gn=len∧Walk w0 s t g v nn sp wr∧Gone s w wr∧SpAt wr w.heap.size ⟨n,0,i⟩∧Sp.choiceG l i j=Sp.choiceG (l.drop c) i j
set_option maxHeartbeats 1600000 in
theorem mThrC_some (w0:World) (s:Nat) (t:ByteArray) (g v nn n b cap i j:Nat) (qs:List Nat) (ks:List Tr) (a:TN) (ht:t.size≤100) (hj:j≤t.size) (hn:TnAt w0 n a) (hns:n < s) (hp:a.parts=.slice (some ⟨b,0,none⟩) qs.length cap) (hb:b < s) (hql:qs.length≤1000) (hkl:qs.length=ks.length) (hc:∀ (k q:Nat),qs[k]?=some q→w0.cell? ⟨b,k,none⟩=some (ptr q))
  (h1:∀ (k q:Nat) (u:Tr),qs[k]?=some q→ks[k]?=some u→EndsC w0 s t q u 0 i)
  (h2:∀ (k q:Nat) (u:Tr),qs[k]?=some q→ks[k]?=some u→(Sp.sem t u).m i j=true→ThrC w0 s t g v nn q ((Sp.sem t u).g i j) i j) :
  StepC w0 s t g v nn 100 n (Sp.choiceG (Sp.sems t ks) i j) i j:=by
 intro w sp h
 have hs:=h.live.lt
 have n0:n < w.heap.size:=by omega
 have n1:n < w.heap.size+1:=by omega
 obtain⟨c0,c1,c2,c3,c4,c5,c6,c7,c8,c9,c10,c11,fz⟩:=(h.live.tn hn hns).facts
 rw [hp] at c2
 have HC:Hid (∀ (k q:Nat),qs[k]?=some q→w0.cell? ⟨b,k,none⟩=some (ptr q)):=hc
 have H1:Hid (∀ (k q:Nat) (u:Tr),qs[k]?=some q→ks[k]?=some u→EndsC w0 s t q u 0 i):=h1
 have H2:Hid (∀ (k q:Nat) (u:Tr),qs[k]?=some q→ks[k]?=some u→(Sp.sem t u).m i j=true→ThrC w0 s t g v nn q ((Sp.sem t u).g i j) i j):=h2
 have HI:Hid (CwInv w0 s t g v nn w sp n (Sp.sems t ks) qs.length i j qs.length (.int .i64 0) (w.alloc (.cells #[.pointer (some ⟨n,0,none⟩),.int .i64 ((0:Nat):Int),.int .i64 i] 140))):=
  ⟨0,rfl,by omega,h.upd (by (repeat (first|exact Upd.refl _ _|refine Upd.drewN ?_|refine Upd.drew ?_|refine Upd.setCell ?_ (by simp) _|refine Upd.alloc ?_ _))),Upd.gone (l:=[]) (by (repeat (first|exact Upd.refl _ _|refine Upd.drewN ?_|refine Upd.drew ?_|refine Upd.setCell ?_ (by simp) _|refine Upd.alloc ?_ _))) (by simp),SpAt.new rfl,rfl⟩
 have hsg:=h.sg
 have hgv:=h.gv
 have hgl:=lt_of_heap h.sp
 have hvl:=lt_of_heap h.wk
 have HKL:Hid (qs.length=ks.length):=hkl
 have hql':(qs.length:Int)≤1000:=by omega
 clear h hn hc h1 h2 hkl
 unfold spotV ptr
 go_enter Tryz.func100,Tryz.ntmps100
 go_wp2_with fail
 go_loopg [15] qs.length (fun gn v' wr=>CwInv w0 s t g v nn w sp n (Sp.sems t ks) qs.length i j gn v' wr)
 case atStart=>exact HI.out
 case round=>
  obtain⟨c,rfl,hcl,wk,gr,sr,hg⟩:=hrel.st
  have WR:Hid (Walk w0 s t g v nn sp wr):=wk
  have GR:Hid (Gone s w wr):=gr
  have SR:Hid (SpAt wr w.heap.size ⟨n,0,i⟩):=sr
  have HG:Hid (Sp.choiceG (Sp.sems t ks) i j=Sp.choiceG ((Sp.sems t ks).drop c) i j):=hg
  have yC:=lt_of_heap sr
  obtain⟨e0,e1,e2,ez⟩:=sr.facts
  by_cases hlt:c < qs.length
  ·obtain⟨q,hq⟩:∃ q,qs[c]?=some q:=⟨_,List.getElem?_eq_getElem hlt⟩
   obtain⟨u,hu⟩:∃ u,ks[c]?=some u:=⟨_,List.getElem?_eq_getElem (by have:=HKL.out;omega)⟩
   have hcell:wr.cell? ⟨b,c,none⟩=some (.pointer (some ⟨q,0,none⟩)):=wk.live.cell (HC.out c q hq) hb
   obtain⟨b0,b1,b2,b3,b4,b5,b6,b7,b8,bz⟩:=wk.wk.facts
   have HE:Hid (EndsC w0 s t q u 0 i):=H1.out c q u hq hu
   have HT:Hid ((Sp.sem t u).m i j=true→ThrC w0 s t g v nn q ((Sp.sem t u).g i j) i j):=H2.out c q u hq hu
   have HD:Hid ((Sp.sems t ks).drop c=Sp.sem t u::(Sp.sems t ks).drop (c+1)):=Sp.sems_drop t _ _ _ hu
   obtain⟨gm,hgm⟩:∃ k,gk=k+1:=⟨gk - 1,by omega⟩
   have hlt':(c:Int) < qs.length:=by omega
   have hvr:v < wr.heap.size:=lt_of_heap wk.wk
   have hsr:s < wr.heap.size:=by omega
   have PZ:Hid (PlAt (wr.alloc (.cells #[.int .u64 0,.int .u64 0] 137)) wr.heap.size (fun _=>false)):=plZ (heap_new rfl)
   have kc:∀ (W:World) (o:Nat) (u u':Value),((W.setCell ⟨wr.heap.size,0,none⟩ u).setCell ⟨wr.heap.size,1,none⟩ u').cell? ⟨w.heap.size,o,none⟩=W.cell? ⟨w.heap.size,o,none⟩:=fun W o u u'=>cell_set2 (by omega)
   have kv:∀ (W:World) (o:Nat) (u u':Value),((W.setCell ⟨wr.heap.size,0,none⟩ u).setCell ⟨wr.heap.size,1,none⟩ u').cell? ⟨v,o,none⟩=W.cell? ⟨v,o,none⟩:=fun W o u u'=>cell_set2 (by omega)
   clear wk gr sr hg hq hu
   go_wp2_with fail
   go_region_held3 (fun w'=>w'.cell? ⟨w.heap.size,2,none⟩=some (.int .i64 i)∧w'.cell? ⟨v,0,none⟩=some (.pointer (some ⟨s,0,none⟩))) (go_keep) (first|(go_at_call 51;refine (HE.out _ (WR.out.live.grow (by (repeat (first|exact Upd.refl _ _|refine Upd.drewN ?_|refine Upd.drew ?_|refine Upd.setCell ?_ (by simp) _|refine Upd.alloc ?_ _))))).mono ?_;rintro e w1 ⟨f1,rfl,hf1,g1,l1⟩;have HF:Hid (Cc w0 s t g v nn sp w ⟨n,0,i⟩ (Sp.spotM t u 0 i) f1 w1):=Cc.mk' hs WR.out GR.out SR.out (by (repeat (first|exact Upd.refl _ _|refine Upd.drewN ?_|refine Upd.drew ?_|refine Upd.setCell ?_ (by simp) _|refine Upd.alloc ?_ _))) g1 l1 hf1;obtain⟨x0,x1,x2,xz⟩:=HF.out.sp.facts;have x3:=HF.out.walk.wk.facts.c0;have r2:PlAt w1 wr.heap.size (fun _=>false):=PlAt.gone (by exact PZ.out) g1 (by omega);have R2:Hid (PlAt w1 wr.heap.size (fun _=>false)):=r2;obtain⟨k2,k3,ky⟩:=r2.facts;clear r2 g1 l1 hf1;unfold plV plCells)|(go_at_call 51;refine (HE.out _ (WR.out.live.grow (by (repeat (first|exact Upd.refl _ _|refine Upd.drewN ?_|refine Upd.drew ?_|refine Upd.setCell ?_ (by simp) _|refine Upd.alloc ?_ _))))).mono ?_;rintro e w1 ⟨f1,rfl,hf1,g1,l1⟩;have HF:Hid (Cc w0 s t g v nn sp w ⟨n,0,i⟩ (Sp.spotM t u 0 i) f1 w1):=Cc.mk' hs WR.out GR.out SR.out (by (repeat (first|exact Upd.refl _ _|refine Upd.drewN ?_|refine Upd.drew ?_|refine Upd.setCell ?_ (by simp) _|refine Upd.alloc ?_ _))) g1 l1 hf1;obtain⟨x0,x1,x2,xz⟩:=HF.out.sp.facts;have x3:=HF.out.walk.wk.facts.c0;clear g1 l1 hf1;unfold plV plCells))
   have F:=Ce.new HF.out
   revert F
   generalize (w1.alloc (.cells #[.int .u64 (word f1 0 64),.int .u64 (word f1 64 64)] 137))=wx
   generalize w1.heap.size=rb at *
   intro F
   have HQ:Hid (Ce w0 s t g v nn sp w ⟨n,0,i⟩ (Sp.spotM t u 0 i) f1 rb wx):=F
   clear F HF x0 x1 x2 x3 xz
   rotate_left
   have F:=Ce.old HF.out R2.out (by omega) hvl
   revert F
   generalize ((w1.setCell ⟨wr.heap.size,0,none⟩ (.int .u64 (word f1 0 64))).setCell ⟨wr.heap.size,1,none⟩ (.int .u64 (word f1 64 64)))=wx
   generalize wr.heap.size=rb at *
   intro F
   have HQ:Hid (Ce w0 s t g v nn sp w ⟨n,0,i⟩ (Sp.spotM t u 0 i) f1 rb wx):=F
   clear F HF x0 x1 x2 x3 xz
   all_goals
    have hjj:j < 128:=by omega
    have hf1:f1 j=(Sp.sem t u).m i j:=by rw [HQ.out.c.ans j hj,Sp.spotM_zero]
    obtain⟨x0,x1,x2,xz⟩:=HQ.out.c.sp.facts
    go_wp2_with fail
    refine (mHas_any _ f1 j _ HQ.out.pl hjj).mono ?_
    rintro e w2 ⟨rfl,hw2⟩
    rw [hw2]
    clear hw2 w2
    cases hm:(Sp.sem t u).m i j with
    | false=>
     rw [hf1,hm]
     have HM:Hid ((Sp.sem t u).m i j=false):=hm
     clear hf1 hm
     go_wp2_with fail
     go_roundg gm
     case measure=>omega
     case rel=>exact⟨c+1,int_eq (by omega),by omega,HQ.out.c.walk,HQ.out.c.gone,HQ.out.c.sp,by rw [HG.out,HD.out,Sp.choiceG,if_neg (by rw [HM.out];decide)]⟩
    | true=>
     rw [hf1,hm]
     have HTT:Hid (ThrC w0 s t g v nn q ((Sp.sem t u).g i j) i j):=HT.out hm
     have HGG:Hid (Sp.choiceG (Sp.sems t ks) i j=(Sp.sem t u).g i j):=by
      show _=_
      rw [HG.out,HD.out,Sp.choiceG,if_pos hm]
     clear hf1 hm
     go_wp2_with fail
     refine (HTT.out _ sp HQ.out.c.walk).mono ?_
     rintro e w2 ⟨rfl,h2,g2⟩
     have W2:Hid (Walk w0 s t g v nn (Sp.puts sp ((Sp.sem t u).g i j)) w2):=h2
     have G2:Hid (GoneG s g w w2):=HQ.out.c.gone.toG.trans g2
     clear h2 g2
     go_wp2_with fail
     refine bodyPost_ret (v:=.tuple #[]) (by simp [results,Tryz.results100,go_sem]) rfl ?_
     refine⟨rfl,?_,G2.out⟩
     rw [HGG.out];exact W2.out
  ·have hlt':¬ (c:Int) < qs.length:=by omega
   have HO:Hid (Sp.choiceG (Sp.sems t ks) i j=[]):=by
    show _=_
    rw [HG.out,List.drop_eq_nil_of_le (by rw [Sp.sems_length];have:=HKL.out;omega),Sp.choiceG]
   clear wk gr sr hg
   go_wp2_with fail
   go_end0
   refine⟨rfl,?_,GR.out.toG⟩
   rw [HO.out];exact WR.out
end Go.Proofs.YtcpfpnjkfahjcaaGreat
