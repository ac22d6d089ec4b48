import Derived.Test.YtcpfpnjkfahjcaaGreatH21
set_option linter.unusedSimpArgs false
set_option linter.unusedVariables false
namespace Go.Proofs.YtcpfpnjkfahjcaaGreat
open Go.RowKit
def FirstOut (w0:World) (s:Nat) (t:ByteArray) (k:Nat) (w:World) (e:Ending) (w':World):Prop:=e=.returned (.int .i64 k)∧Gone s w w'∧Live w0 s t w'
structure FeInv (w0:World) (s:Nat) (t:ByteArray) (v g nn:Nat) (w:World) (C q:Nat) (x:Spot) (f1:Nat→Bool) (pm sm:Nat→Nat→Bool) (i j:Nat) (gn:Nat) (val:Value) (wr:World):Prop where
 st:∃ c:Nat,val=.int .i64 c∧i≤c∧c≤j∧c - i≤gn∧(∀ m,c < m→m≤j→(pm i m && sm m j)=false)∧Live w0 s t wr∧Gone s w wr∧WkAt wr v s g nn∧q < wr.heap.size∧C < wr.heap.size∧
  SpAt wr C x∧PlAt wr q f1
structure Fc (w0:World) (s:Nat) (t:ByteArray) (v g nn:Nat) (w:World) (x:Spot) (m f:Nat→Bool) (w1:World):Prop where
 live:Live w0 s t w1
 gone:Gone s w w1
 wk:WkAt w1 v s g nn
 sp:SpAt w1 w.heap.size x
 ans:∀ j,j≤t.size→f j=m j
theorem Fc.mk' {w0:World} {s:Nat} {t:ByteArray} {v g nn:Nat} {sp:Nat→Int×Int} {w W:World} {x:Spot} {m f:Nat→Bool} {w1:World} (h:Walk w0 s t g v nn sp w) (u:Upd [] w W) (c:SpAt W w.heap.size x) (g1:Gone s W w1) (l1:Live w0 s t w1) (hf:∀ j,j≤t.size→f j=m j):Fc w0 s t v g nn w x m f w1:=
 ⟨l1,(u.gone (by simp)).trans g1,(h.upd u).wk.gone g1 (by have:=h.sg;have:=h.gv;omega),c.gone g1 (by have:=h.live.lt;omega),hf⟩
structure Fe1 (w0:World) (s:Nat) (t:ByteArray) (v g nn:Nat) (w:World) (x:Spot) (m f:Nat→Bool) (q:Nat) (wx:World):Prop where
 c:Fc w0 s t v g nn w x m f wx
 pl:PlAt wx q f
 far:w.heap.size < q
theorem Fe1.new {w0:World} {s:Nat} {t:ByteArray} {v g nn:Nat} {w:World} {x:Spot} {m f:Nat→Bool} {w1:World} (h:Fc w0 s t v g nn w x m f w1):Fe1 w0 s t v g nn w x m f w1.heap.size (w1.alloc (.cells #[.int .u64 (word f 0 64),.int .u64 (word f 64 64)] 137)):=by
 have u:Upd [] w1 (w1.alloc (.cells #[.int .u64 (word f 0 64),.int .u64 (word f 64 64)] 137)):=by (repeat (first|exact Upd.refl _ _|refine Upd.drewN ?_|refine Upd.drew ?_|refine Upd.setCell ?_ (by simp) _|refine Upd.alloc ?_ _))
 exact⟨⟨h.live.grow u,h.gone.hide u (by simp),(u.block v (lt_of_heap h.wk) (by simp)).trans h.wk,h.sp.upd u (by simp),h.ans⟩,heap_new rfl,lt_of_heap h.sp⟩
theorem Fe1.old {w0:World} {s:Nat} {t:ByteArray} {v g nn:Nat} {w:World} {x:Spot} {m f:Nat→Bool} {w1:World} {q:Nat} (h:Fc w0 s t v g nn w x m f w1) (p:PlAt w1 q (fun _=>false)) (hq:w.heap.size < q) (hs:s < w.heap.size) (hv:v < w.heap.size):Fe1 w0 s t v g nn w x m f q ((w1.setCell ⟨q,0,none⟩ (.int .u64 (word f 0 64))).setCell ⟨q,1,none⟩ (.int .u64 (word f 64 64))):=by
 have u:Upd [q] w1 ((w1.setCell ⟨q,0,none⟩ (.int .u64 (word f 0 64))).setCell ⟨q,1,none⟩ (.int .u64 (word f 64 64))):=by (repeat (first|exact Upd.refl _ _|refine Upd.drewN ?_|refine Upd.drew ?_|refine Upd.setCell ?_ (by simp) _|refine Upd.alloc ?_ _))
 exact⟨⟨h.live.pl u p p.store (by omega),h.gone.hide u (by simp;omega),(u.block v (lt_of_heap h.wk) (by simp;omega)).trans h.wk,h.sp.upd u (by simp;omega),h.ans⟩,p.store,hq⟩
structure Fd (w0:World) (s:Nat) (t:ByteArray) (v g nn:Nat) (w:World) (x:Spot) (q:Nat) (f1 m f:Nat→Bool) (w1:World):Prop where
 c:Fc w0 s t v g nn w x m f w1
 pl:PlAt w1 q f1
theorem Fd.mk' {w0:World} {s:Nat} {t:ByteArray} {v g nn:Nat} {w wr W:World} {x:Spot} {q:Nat} {f1 m f:Nat→Bool} {w1:World} (hs:s < w.heap.size) (hv:s < v) (hq:w.heap.size < q) (gr:Gone s w wr) (k:WkAt wr v s g nn) (c:SpAt wr w.heap.size x) (p:PlAt wr q f1) (u:Upd [] wr W) (g1:Gone s W w1) (l1:Live w0 s t w1) (hf:∀ j,j≤t.size→f j=m j):Fd w0 s t v g nn w x q f1 m f w1:=
 ⟨⟨l1,(gr.trans (u.gone (by simp))).trans g1,WkAt.gone ((u.block v (lt_of_heap k) (by simp)).trans k) g1 (by omega),(c.upd u (by simp)).gone g1 (by omega),hf⟩,(p.upd u (by simp)).gone g1 (by omega)⟩
structure Fz (w0:World) (s:Nat) (t:ByteArray) (v g nn:Nat) (w:World) (x:Spot) (q:Nat) (f1 m f:Nat→Bool) (rb:Nat) (wz:World):Prop where
 d:Fd w0 s t v g nn w x q f1 m f wz
 rest:PlAt wz rb f
theorem Fz.new {w0:World} {s:Nat} {t:ByteArray} {v g nn:Nat} {w:World} {x:Spot} {q:Nat} {f1 m f:Nat→Bool} {w1:World} (h:Fd w0 s t v g nn w x q f1 m f w1):Fz w0 s t v g nn w x q f1 m f w1.heap.size (w1.alloc (.cells #[.int .u64 (word f 0 64),.int .u64 (word f 64 64)] 137)):=by
 have u:Upd [] w1 (w1.alloc (.cells #[.int .u64 (word f 0 64),.int .u64 (word f 64 64)] 137)):=by (repeat (first|exact Upd.refl _ _|refine Upd.drewN ?_|refine Upd.drew ?_|refine Upd.setCell ?_ (by simp) _|refine Upd.alloc ?_ _))
 exact⟨⟨(Fe1.new h.c).c,h.pl.upd u (by simp)⟩,heap_new rfl⟩
theorem Fz.old {w0:World} {s:Nat} {t:ByteArray} {v g nn:Nat} {w:World} {x:Spot} {q:Nat} {f1 m f:Nat→Bool} {w1:World} {rb:Nat} (h:Fd w0 s t v g nn w x q f1 m f w1) (p:PlAt w1 rb (fun _=>false)) (hq:w.heap.size < rb) (hs:s < w.heap.size) (hv:v < w.heap.size) (hne:q≠rb):Fz w0 s t v g nn w x q f1 m f rb ((w1.setCell ⟨rb,0,none⟩ (.int .u64 (word f 0 64))).setCell ⟨rb,1,none⟩ (.int .u64 (word f 64 64))):=by
 have u:Upd [rb] w1 ((w1.setCell ⟨rb,0,none⟩ (.int .u64 (word f 0 64))).setCell ⟨rb,1,none⟩ (.int .u64 (word f 64 64))):=by (repeat (first|exact Upd.refl _ _|refine Upd.drewN ?_|refine Upd.drew ?_|refine Upd.setCell ?_ (by simp) _|refine Upd.alloc ?_ _))
 exact⟨⟨(Fe1.old h.c p hq hs hv).c,h.pl.upd u (by simpa using hne)⟩,p.store⟩
set_option maxHeartbeats 1600000 in
theorem mFirst_any (w0:World) (s:Nat) (t:ByteArray) (g v nn n p d i j k:Nat) (sp:Nat→Int×Int) (tr pt:Tr) (a:TN) (w:World) (h:Walk w0 s t g v nn sp w) (ht:t.size≤100) (hj:j≤t.size) (hd:d < 1000) (hn:TnAt w0 n a) (hns:n < s) (hl:0≤a.least)
  (h1:EndsC w0 s t p pt 0 i) (h2:∀ k,i < k→k≤t.size→(Sp.sem t pt).m i k=true→EndsC w0 s t n tr (nextD a d) k)
  (hk:Sp.greatest (fun k=>(Sp.sem t pt).m i k && Sp.spotM t tr (nextD a d) k j) i j=some k) :
  Calls Tryz.prog 122 #[ptr v,spotV ⟨n,d,i⟩,ptr p,.int .i64 j] w (FirstOut w0 s t k w):=by
 have H1:Hid (EndsC w0 s t p pt 0 i):=h1
 have H2:Hid (∀ k,i < k→k≤t.size→(Sp.sem t pt).m i k=true→EndsC w0 s t n tr (nextD a d) k):=h2
 have HN:Hid (TnAt w0 n a):=hn
 have HK:Hid (Sp.greatest (fun k=>(Sp.sem t pt).m i k && Sp.spotM t tr (nextD a d) k j) i j=some k):=hk
 have HW:Hid (Walk w0 s t g v nn sp w):=h
 have hs:=h.live.lt
 have hv:=lt_of_heap h.wk
 have hv1:v < w.heap.size+1:=by omega
 have hsv:s < v:=by have:=h.sg;have:=h.gv;omega
 obtain⟨d0,d1,d2,d3,d4,d5,d6,d7,d8,dz⟩:=h.wk.facts
 have C1:Hid (SpAt (w.alloc (.cells #[.pointer (some ⟨n,0,none⟩),.int .i64 d,.int .i64 i] 140)) w.heap.size ⟨n,d,i⟩):=SpAt.new rfl
 have P2:Hid (PlAt ((w.alloc (.cells #[.pointer (some ⟨n,0,none⟩),.int .i64 d,.int .i64 i] 140)).alloc (.cells #[.int .u64 0,.int .u64 0] 137)) (w.heap.size+1) (fun _=>false)):=plZ (heap_new (by simp))
 have kc:∀ (W:World) (o:Nat) (u v:Value),((W.setCell ⟨w.heap.size+1,0,none⟩ u).setCell ⟨w.heap.size+1,1,none⟩ v).cell? ⟨w.heap.size,o,none⟩=W.cell? ⟨w.heap.size,o,none⟩:=fun W o u v=>cell_set2 (by omega)
 have kv:∀ (W:World) (o:Nat) (u u':Value),((W.setCell ⟨w.heap.size+1,0,none⟩ u).setCell ⟨w.heap.size+1,1,none⟩ u').cell? ⟨v,o,none⟩=W.cell? ⟨v,o,none⟩:=fun W o u v=>cell_set2 (by omega)
 have L1:Hid (Live w0 s t (w.alloc (.cells #[.pointer (some ⟨n,0,none⟩),.int .i64 d,.int .i64 i] 140))):=h.live.grow (by (repeat (first|exact Upd.refl _ _|refine Upd.drewN ?_|refine Upd.drew ?_|refine Upd.setCell ?_ (by simp) _|refine Upd.alloc ?_ _)))
 have L2:Hid (Live w0 s t ((w.alloc (.cells #[.pointer (some ⟨n,0,none⟩),.int .i64 d,.int .i64 i] 140)).alloc (.cells #[.int .u64 0,.int .u64 0] 137))):=h.live.grow (by (repeat (first|exact Upd.refl _ _|refine Upd.drewN ?_|refine Upd.drew ?_|refine Upd.setCell ?_ (by simp) _|refine Upd.alloc ?_ _)))
 clear h h1 h2 hn hk
 unfold spotV ptr
 go_enter Tryz.func122,Tryz.ntmps122
 go_wp2_with fail
 go_region_held3 (fun w'=>w'.cell? ⟨w.heap.size,2,none⟩=some (.int .i64 i)∧w'.cell? ⟨v,0,none⟩=some (.pointer (some ⟨s,0,none⟩))) (go_keep) (first|(go_at_call 51;refine (H1.out _ (HW.out.live.grow (by (repeat (first|exact Upd.refl _ _|refine Upd.drewN ?_|refine Upd.drew ?_|refine Upd.setCell ?_ (by simp) _|refine Upd.alloc ?_ _))))).mono ?_;rintro e w1 ⟨f1,rfl,hf1,g1,l1⟩;have HF:Hid (Fc w0 s t v g nn w ⟨n,d,i⟩ (Sp.spotM t pt 0 i) f1 w1):=Fc.mk' HW.out (by (repeat (first|exact Upd.refl _ _|refine Upd.drewN ?_|refine Upd.drew ?_|refine Upd.setCell ?_ (by simp) _|refine Upd.alloc ?_ _))) (by exact C1.out.alloc _) g1 l1 hf1;obtain⟨x0,x1,x2,xz⟩:=HF.out.sp.facts;have x3:=HF.out.wk.facts.c0;have r2:PlAt w1 (w.heap.size+1) (fun _=>false):=PlAt.gone (by exact P2.out) g1 (by omega);have R2:Hid (PlAt w1 (w.heap.size+1) (fun _=>false)):=r2;obtain⟨k2,k3,ky⟩:=r2.facts;clear r2 g1 l1 hf1;unfold plV plCells)|(go_at_call 51;refine (H1.out _ (HW.out.live.grow (by (repeat (first|exact Upd.refl _ _|refine Upd.drewN ?_|refine Upd.drew ?_|refine Upd.setCell ?_ (by simp) _|refine Upd.alloc ?_ _))))).mono ?_;rintro e w1 ⟨f1,rfl,hf1,g1,l1⟩;have HF:Hid (Fc w0 s t v g nn w ⟨n,d,i⟩ (Sp.spotM t pt 0 i) f1 w1):=Fc.mk' HW.out (by (repeat (first|exact Upd.refl _ _|refine Upd.drewN ?_|refine Upd.drew ?_|refine Upd.setCell ?_ (by simp) _|refine Upd.alloc ?_ _))) (by exact C1.out) g1 l1 hf1;obtain⟨x0,x1,x2,xz⟩:=HF.out.sp.facts;have x3:=HF.out.wk.facts.c0;clear g1 l1 hf1;unfold plV plCells))
 rotate_left
 have F:=Fe1.old HF.out R2.out (by omega) hs hv
 revert F
 generalize ((w1.setCell ⟨w.heap.size+1,0,none⟩ (.int .u64 (word f1 0 64))).setCell ⟨w.heap.size+1,1,none⟩ (.int .u64 (word f1 64 64)))=wx
 clear R2 k2 k3 ky P2 kc kv
 generalize w.heap.size+1=q at *
 intro F
 have HQ:Hid (Fe1 w0 s t v g nn w ⟨n,d,i⟩ (Sp.spotM t pt 0 i) f1 q wx):=F
 clear F HF x0 x1 x2 x3 xz
 go_wp2_with fail
 rotate_left
 have F:=Fe1.new HF.out
 revert F
 generalize (w1.alloc (.cells #[.int .u64 (word f1 0 64),.int .u64 (word f1 64 64)] 137))=wx
 generalize w1.heap.size=q at *
 intro F
 have HQ:Hid (Fe1 w0 s t v g nn w ⟨n,d,i⟩ (Sp.spotM t pt 0 i) f1 q wx):=F
 clear F HF x0 x1 x2 x3 xz
 go_wp2_with fail
 all_goals
  go_loopg [10] (j - i+1) (fun gn v' wr=>FeInv w0 s t v g nn w w.heap.size q ⟨n,d,i⟩ f1 (Sp.sem t pt).m (Sp.spotM t tr (nextD a d)) i j gn v' wr)
  case atStart=>
   have hg:=Sp.greatest_some HK.out
   exact⟨j,rfl,by omega,Nat.le_refl _,by omega,fun m h1 h2=>by omega,HQ.out.c.live,HQ.out.c.gone,HQ.out.c.wk,lt_of_heap HQ.out.pl,lt_of_heap HQ.out.c.sp,HQ.out.c.sp,HQ.out.pl⟩
  case round=>
   obtain⟨c,rfl,hc1,hc2,hc3,hno,lr,gr,kr,yq,yC,sr,pr⟩:=hrel.st
   obtain⟨e0,e1,e2,ez⟩:=sr.facts
   obtain⟨k2,k3,ky⟩:=pr.facts
   have LR:Hid (Live w0 s t wr):=lr
   have GR:Hid (Gone s w wr):=gr
   have KR:Hid (WkAt wr v s g nn):=kr
   have SR:Hid (SpAt wr w.heap.size ⟨n,d,i⟩):=sr
   have PR:Hid (PlAt wr q f1):=pr
   have NO:Hid (∀ m,c < m→m≤j→((Sp.sem t pt).m i m && Sp.spotM t tr (nextD a d) m j)=false):=hno
   have hcc:c < 128:=by omega
   have hqf:=HQ.out.far
   by_cases hlt:i < c
   ·have hlt':(i:Int) < c:=by omega
    have hf1:f1 c=(Sp.sem t pt).m i c:=by rw [HQ.out.c.ans c (by omega),Sp.spotM_zero]
    clear lr gr kr sr pr hno
    go_wp2_with fail
    refine (mHas_any _ f1 c _ PR.out hcc).mono ?_
    rintro e w2 ⟨rfl,hw2⟩
    rw [hw2]
    clear hw2 w2
    obtain⟨gm,hgm⟩:∃ k,gk=k+1:=⟨gk - 1,by omega⟩
    cases hm:(Sp.sem t pt).m i c with
    | false=>
     rw [hf1,hm]
     have HM:Hid ((Sp.sem t pt).m i c=false):=hm
     clear hf1 hm
     go_wp2_with fail
     go_roundg gm
     case measure=>omega
     case rel=>exact⟨c - 1,int_eq (by omega),by omega,by omega,by omega,fun m h1 h2=>by
      rcases (by omega:m=c∨c < m) with q|q
      ·subst q;rw [HM.out];rfl
      ·exact NO.out m q h2,LR.out,GR.out,KR.out,yq,yC,SR.out,PR.out⟩
    | true=>
     rw [hf1,hm]
     have HM:Hid ((Sp.sem t pt).m i c=true):=hm
     clear hf1 hm
     obtain⟨b0,b1,b2,b3,b4,b5,b6,b7,b8,bz⟩:=KR.out.facts
     have HE:Hid (EndsC w0 s t n tr (nextD a d) c):=H2.out c hlt (by omega) HM.out
     have PZ:Hid (PlAt (wr.alloc (.cells #[.int .u64 0,.int .u64 0] 137)) wr.heap.size (fun _=>false)):=plZ (heap_new rfl)
     have kc:∀ (W:World) (b o:Nat) (u u':Value),b≠w.heap.size→((W.setCell ⟨b,0,none⟩ u).setCell ⟨b,1,none⟩ u').cell? ⟨w.heap.size,o,none⟩=W.cell? ⟨w.heap.size,o,none⟩:=fun W b o u u' h=>cell_set2 (by omega)
     have kv:∀ (W:World) (b o:Nat) (u u':Value),b≠v→((W.setCell ⟨b,0,none⟩ u).setCell ⟨b,1,none⟩ u').cell? ⟨v,o,none⟩=W.cell? ⟨v,o,none⟩:=fun W b o u u' h=>cell_set2 (by omega)
     have hb1:wr.heap.size≠w.heap.size:=by omega
     have hb2:wr.heap.size≠v:=by omega
     have hvr:v < wr.heap.size:=lt_of_heap KR.out
     have hsr:s < wr.heap.size:=by omega
     go_wp2_with fail
     go_region_held3 (fun w'=>w'.cell? ⟨w.heap.size,0,none⟩=some (.pointer (some ⟨n,0,none⟩))∧w'.cell? ⟨w.heap.size,1,none⟩=some (.int .i64 d)∧w'.cell? ⟨w.heap.size,2,none⟩=some (.int .i64 i)∧w'.cell? ⟨v,0,none⟩=some (.pointer (some ⟨s,0,none⟩))) (go_keep) (first|(go_at_call 113;refine (mNext_any n d i c a _ (Live.tn (LR.out.grow (by (repeat (first|exact Upd.refl _ _|refine Upd.drewN ?_|refine Upd.drew ?_|refine Upd.setCell ?_ (by simp) _|refine Upd.alloc ?_ _)))) HN.out hns) hd hl).mono ?_;rintro e w3 ⟨rfl,u3⟩;have r3:PlAt w3 wr.heap.size (fun _=>false):=PlAt.upd2 u3 (by exact PZ.out) (by simp);have R3:Hid (PlAt w3 wr.heap.size (fun _=>false)):=r3;obtain⟨k4,k5,kx⟩:=r3.facts;have U3:Hid (Upd [] wr w3):=Upd.trans (by (repeat (first|exact Upd.refl _ _|refine Upd.drewN ?_|refine Upd.drew ?_|refine Upd.setCell ?_ (by simp) _|refine Upd.alloc ?_ _))) u3;have L3:Hid (Live w0 s t w3):=LR.out.grow U3.out;obtain⟨x0,x1,x2,xz⟩:=(SR.out.upd U3.out (by simp)).facts;have x3:=(WkAt.facts ((U3.out.block v (lt_of_heap KR.out) (by simp)).trans KR.out)).c0;clear u3 r3;unfold spotV)|(go_at_call 113;refine (mNext_any n d i c a _ (Live.tn (LR.out.grow (by (repeat (first|exact Upd.refl _ _|refine Upd.drewN ?_|refine Upd.drew ?_|refine Upd.setCell ?_ (by simp) _|refine Upd.alloc ?_ _)))) HN.out hns) hd hl).mono ?_;rintro e w3 ⟨rfl,u3⟩;have U3:Hid (Upd [] wr w3):=Upd.trans (by (repeat (first|exact Upd.refl _ _|refine Upd.drewN ?_|refine Upd.drew ?_|refine Upd.setCell ?_ (by simp) _|refine Upd.alloc ?_ _))) u3;have L3:Hid (Live w0 s t w3):=LR.out.grow U3.out;obtain⟨x0,x1,x2,xz⟩:=(SR.out.upd U3.out (by simp)).facts;have x3:=(WkAt.facts ((U3.out.block v (lt_of_heap KR.out) (by simp)).trans KR.out)).c0;have h33:=U3.out.size;have hb3:w3.heap.size≠w.heap.size:=(by omega);have hb4:w3.heap.size≠v:=(by omega);clear u3;unfold spotV)|(go_at_call 51;refine (HE.out _ (L3.out.grow (by (repeat (first|exact Upd.refl _ _|refine Upd.drewN ?_|refine Upd.drew ?_|refine Upd.setCell ?_ (by simp) _|refine Upd.alloc ?_ _))))).mono ?_;rintro e w4 ⟨f4,rfl,hf4,g4,l4⟩;have HD:Hid (Fd w0 s t v g nn w ⟨n,d,i⟩ q f1 (Sp.spotM t tr (nextD a d) c) f4 w4):=Fd.mk' hs hsv hqf GR.out KR.out SR.out PR.out (Upd.trans U3.out (by (repeat (first|exact Upd.refl _ _|refine Upd.drewN ?_|refine Upd.drew ?_|refine Upd.setCell ?_ (by simp) _|refine Upd.alloc ?_ _)))) g4 l4 hf4;have r4:PlAt w4 wr.heap.size (fun _=>false):=PlAt.gone (by exact R3.out) g4 (by omega);have R4:Hid (PlAt w4 wr.heap.size (fun _=>false)):=r4;obtain⟨k4,k5,kx⟩:=r4.facts;clear r4;obtain⟨x0,x1,x2,xz⟩:=HD.out.c.sp.facts;have x3:=HD.out.c.wk.facts.c0;clear g4 l4 hf4;unfold plV plCells)|(go_at_call 51;refine (HE.out _ (L3.out.grow (by (repeat (first|exact Upd.refl _ _|refine Upd.drewN ?_|refine Upd.drew ?_|refine Upd.setCell ?_ (by simp) _|refine Upd.alloc ?_ _))))).mono ?_;rintro e w4 ⟨f4,rfl,hf4,g4,l4⟩;have HD:Hid (Fd w0 s t v g nn w ⟨n,d,i⟩ q f1 (Sp.spotM t tr (nextD a d) c) f4 w4):=Fd.mk' hs hsv hqf GR.out KR.out SR.out PR.out (Upd.trans U3.out (by (repeat (first|exact Upd.refl _ _|refine Upd.drewN ?_|refine Upd.drew ?_|refine Upd.setCell ?_ (by simp) _|refine Upd.alloc ?_ _)))) g4 l4 hf4;have r4:PlAt w4 w3.heap.size (fun _=>false):=PlAt.gone (by exact plZ (heap_new rfl)) g4 (by omega);have R4:Hid (PlAt w4 w3.heap.size (fun _=>false)):=r4;obtain⟨k4,k5,kx⟩:=r4.facts;clear r4;obtain⟨x0,x1,x2,xz⟩:=HD.out.c.sp.facts;have x3:=HD.out.c.wk.facts.c0;clear g4 l4 hf4;unfold plV plCells)|(go_at_call 51;refine (HE.out _ (L3.out.grow (by (repeat (first|exact Upd.refl _ _|refine Upd.drewN ?_|refine Upd.drew ?_|refine Upd.setCell ?_ (by simp) _|refine Upd.alloc ?_ _))))).mono ?_;rintro e w4 ⟨f4,rfl,hf4,g4,l4⟩;have HD:Hid (Fd w0 s t v g nn w ⟨n,d,i⟩ q f1 (Sp.spotM t tr (nextD a d) c) f4 w4):=Fd.mk' hs hsv hqf GR.out KR.out SR.out PR.out (Upd.trans U3.out (by (repeat (first|exact Upd.refl _ _|refine Upd.drewN ?_|refine Upd.drew ?_|refine Upd.setCell ?_ (by simp) _|refine Upd.alloc ?_ _)))) g4 l4 hf4;obtain⟨x0,x1,x2,xz⟩:=HD.out.c.sp.facts;have x3:=HD.out.c.wk.facts.c0;clear g4 l4 hf4;unfold plV plCells))
     have Z:=Fz.new HD.out
     revert Z
     generalize (w4.alloc (.cells #[.int .u64 (word f4 0 64),.int .u64 (word f4 64 64)] 137))=wz
     generalize w4.heap.size=rb at *
     intro Z
     have HZ:Hid (Fz w0 s t v g nn w ⟨n,d,i⟩ q f1 (Sp.spotM t tr (nextD a d) c) f4 rb wz):=Z
     clear Z HD x0 x1 x2 x3 xz
     rotate_left
     have Z:=Fz.old HD.out R4.out (by omega) hs hv (by omega)
     revert Z
     generalize ((w4.setCell ⟨w3.heap.size,0,none⟩ (.int .u64 (word f4 0 64))).setCell ⟨w3.heap.size,1,none⟩ (.int .u64 (word f4 64 64)))=wz
     generalize w3.heap.size=rb at *
     intro Z
     have HZ:Hid (Fz w0 s t v g nn w ⟨n,d,i⟩ q f1 (Sp.spotM t tr (nextD a d) c) f4 rb wz):=Z
     clear Z HD x0 x1 x2 x3 xz
     rotate_left
     have Z:=Fz.old HD.out R4.out (by omega) hs hv (by omega)
     revert Z
     generalize ((w4.setCell ⟨wr.heap.size,0,none⟩ (.int .u64 (word f4 0 64))).setCell ⟨wr.heap.size,1,none⟩ (.int .u64 (word f4 64 64)))=wz
     generalize wr.heap.size=rb at *
     intro Z
     have HZ:Hid (Fz w0 s t v g nn w ⟨n,d,i⟩ q f1 (Sp.spotM t tr (nextD a d) c) f4 rb wz):=Z
     clear Z HD x0 x1 x2 x3 xz
     all_goals
      have hjj:j < 128:=by omega
      have hf4:f4 j=Sp.spotM t tr (nextD a d) c j:=HZ.out.d.c.ans j hj
      go_wp2_with fail
      refine (mHas_any _ f4 j _ HZ.out.rest hjj).mono ?_
      rintro e w2 ⟨rfl,hw2⟩
      rw [hw2]
      clear hw2 w2
      cases hm:Sp.spotM t tr (nextD a d) c j with
      | false=>
       rw [hf4,hm]
       have HM2:Hid (Sp.spotM t tr (nextD a d) c j=false):=hm
       clear hf4 hm
       go_wp2_with fail
       go_roundg gm
       case measure=>omega
       case rel=>exact⟨c - 1,int_eq (by omega),by omega,by omega,by omega,fun m h1 h2=>by
        rcases (by omega:m=c∨c < m) with q|q
        ·subst q;rw [HM2.out];simp
        ·exact NO.out m q h2,HZ.out.d.c.live,HZ.out.d.c.gone,HZ.out.d.c.wk,lt_of_heap HZ.out.d.pl,lt_of_heap HZ.out.d.c.sp,HZ.out.d.c.sp,HZ.out.d.pl⟩
      | true=>
       rw [hf4,hm]
       have HEQ:Hid (k=c):=by
        have:=Sp.greatest_is (p:=fun k=>(Sp.sem t pt).m i k && Sp.spotM t tr (nextD a d) k j) hc1 hc2 (by rw [HM.out,hm];rfl) NO.out
        have:=HK.out.symm.trans this
        show k=c
        simpa using this
       clear hf4 hm
       go_wp2_with fail
       go_ret
       refine⟨?_,HZ.out.d.c.gone,HZ.out.d.c.live⟩
       rw [HEQ.out];rfl
   ·have hlt':¬ (i:Int) < c:=by omega
    have hci:c=i:=by omega
    have HE:Hid (k=i):=by
     have r:=Sp.greatest_some HK.out
     show k=i
     rcases (by omega:k=i∨i < k) with q|q
     ·exact q
     ·have:=hno k (by omega) r.2.1
      have r3:=r.2.2.1
      rw [this] at r3;cases r3
    clear lr gr kr sr pr hno
    go_wp2_with fail
    go_ret
    refine⟨?_,GR.out,LR.out⟩
    rw [HE.out];rfl
end Go.Proofs.YtcpfpnjkfahjcaaGreat
