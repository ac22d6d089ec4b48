import Derived.Test.YtcpfpnjkfahjcaaGreatH17
set_option linter.unusedSimpArgs false
set_option linter.unusedVariables false
namespace Go.Proofs.YtcpfpnjkfahjcaaGreat
open Go.RowKit
theorem SpAt.upd2 {l:List Nat} {w w':World} (u:Upd l w w') {p:Nat} {x:Spot} (h:SpAt w p x) (hp:p∉l):SpAt w' p x:=h.upd u hp
theorem PlAt.upd2 {l:List Nat} {w w':World} (u:Upd l w w') {p:Nat} {f:Nat→Bool} (h:PlAt w p f) (hp:p∉l):PlAt w' p f:=h.upd u hp
theorem Right.ans {w0:World} {s:Nat} {t:ByteArray} {n d i:Nat} {f:Nat→Bool} (h:Right w0 s t ⟨n,d,i⟩ f) {S:Nat→Prop} {tr:Tr} (hT:NodesAt w0 S [n] [tr]) (hC:Sp.Can [tr]):∀ j,j≤t.size→f j=Sp.spotM t tr d i j:=by
 obtain⟨S',tr',_,h2,h3,h4⟩:=h
 have:=NodesAt.uniq1 hT h2 hC h3
 subst this
 exact h4
structure Kn (w0:World) (s:Nat) (t:ByteArray) (w:World) (n d i kb:Nat) (f:Nat→Bool) (wx:World):Prop where
 live:Live w0 s t wx
 upd:Upd [] w wx
 sp:SpAt wx w.heap.size ⟨n,d,i⟩
 res:PlAt wx (w.heap.size+1) (fun _=>false)
 kn:PlAt wx kb f
 lt:w.heap.size+1 < kb
structure FndS (w0:World) (s:Nat) (t:ByteArray) (w:World) (n d i fb:Nat) (tr:Tr) (f:Nat→Bool) (wy:World):Prop where
 live:Live w0 s t wy
 gone:Gone s w wy
 sp:SpAt wy w.heap.size ⟨n,d,i⟩
 res:PlAt wy (w.heap.size+1) (fun _=>false)
 pl:PlAt wy fb f
 far:w.heap.size+1 < fb
 ans:∀ j,j≤t.size→f j=Sp.spotM t tr d i j
theorem Live.later {w0:World} {s:Nat} {t:ByteArray} {w w':World} (h:Live w0 s t w) (g:Gone s w w') (r:Srch w' s t (Right w0 s t)):Live w0 s t w':=
 ⟨fun k hk=>(g.block k ⟨by have:=h.lt;omega,by omega,fun q=>by omega⟩).trans (h.base k hk),r⟩
def FindC (w0:World) (s:Nat) (t:ByteArray) (fn:Nat) (n:Nat) (tr:Tr) (d i:Nat):Prop:=
 ∀ w,Live w0 s t w→Calls Tryz.prog fn #[ptr s,spotV ⟨n,d,i⟩] w (EndsOut w0 s t (Sp.spotM t tr d i) w)
set_option maxRecDepth 4000 in
set_option maxHeartbeats 12000000 in
theorem mEnds_any (w0:World) (s n d i:Nat) (S:Nat→Prop) (t:ByteArray) (tr:Tr) (a:TN) (hS:∀ k,S k→k < s) (hT:NodesAt w0 S [n] [tr]) (hC:Sp.Can [tr]) (hn:TnAt w0 n a) (hns:n < s) (hq:(a.kind=0∧FindC w0 s t 66 n tr d i)∨(a.kind=1∧FindC w0 s t 67 n tr d i)∨(a.kind=2∧FindC w0 s t 68 n tr d i)∨(a.kind=3∧FindC w0 s t 69 n tr d i)∨(a.kind=4∧FindC w0 s t 70 n tr d i)∨(a.kind=5∧FindC w0 s t 71 n tr d i)∨(a.kind=6∧FindC w0 s t 72 n tr d i)):EndsC w0 s t n tr d i:=by
 rcases hq with ⟨hk,hF⟩|⟨hk,hF⟩|⟨hk,hF⟩|⟨hk,hF⟩|⟨hk,hF⟩|⟨hk,hF⟩|⟨hk,hF⟩
 all_goals as_aux_lemma=>
  intro w h
  have hs:=h.lt
  have n0:n < w.heap.size:=by omega
  have n1:n < w.heap.size+1:=by omega
  have n2:n < w.heap.size+1+1:=by omega
  have s1:s < w.heap.size+1:=by omega
  have s2:s < w.heap.size+1+1:=by omega
  obtain⟨c0,c1,c2,c3,c4,c5,c6,c7,c8,c9,c10,c11,fz⟩:=(h.tn hn hns).facts
  rw [hk] at c0
  have u:Upd [] w ((w.alloc (.cells #[.pointer (some ⟨n,0,none⟩),.int .i64 d,.int .i64 i] 140)).alloc (.cells #[.int .u64 0,.int .u64 0] 137)):=by (repeat (first|exact Upd.refl _ _|refine Upd.drewN ?_|refine Upd.drew ?_|refine Upd.setCell ?_ (by simp) _|refine Upd.alloc ?_ _))
  have U:Hid (Upd [] w ((w.alloc (.cells #[.pointer (some ⟨n,0,none⟩),.int .i64 d,.int .i64 i] 140)).alloc (.cells #[.int .u64 0,.int .u64 0] 137))):=u
  have L1:Hid (Live w0 s t ((w.alloc (.cells #[.pointer (some ⟨n,0,none⟩),.int .i64 d,.int .i64 i] 140)).alloc (.cells #[.int .u64 0,.int .u64 0] 137))):=h.grow u
  have P1:Hid (PlAt ((w.alloc (.cells #[.pointer (some ⟨n,0,none⟩),.int .i64 d,.int .i64 i] 140)).alloc (.cells #[.int .u64 0,.int .u64 0] 137)) (w.heap.size+1) (fun _=>false)):=plZ (heap_new (by simp))
  have C1:Hid (SpAt ((w.alloc (.cells #[.pointer (some ⟨n,0,none⟩),.int .i64 d,.int .i64 i] 140)).alloc (.cells #[.int .u64 0,.int .u64 0] 137)) w.heap.size ⟨n,d,i⟩):=(SpAt.new rfl).alloc _
  have HN:Hid (TnAt w0 n a):=hn
  have HF:Hid (FindC w0 s t _ n tr d i):=hF
  have L2:Hid (Live w0 s t (((w.alloc (.cells #[.pointer (some ⟨n,0,none⟩),.int .i64 d,.int .i64 i] 140)).alloc (.cells #[.int .u64 0,.int .u64 0] 137)).alloc (.cells #[.int .u64 0,.int .u64 0] 137))):=L1.out.grow ((Upd.refl _ _).alloc _)
  have P2:Hid (PlAt (((w.alloc (.cells #[.pointer (some ⟨n,0,none⟩),.int .i64 d,.int .i64 i] 140)).alloc (.cells #[.int .u64 0,.int .u64 0] 137)).alloc (.cells #[.int .u64 0,.int .u64 0] 137)) (w.heap.size+1+1) (fun _=>false)):=plZ (heap_new (by simp))
  have kc:∀ (W:World) (o:Nat) (u v:Value),((W.setCell ⟨w.heap.size+1+1,0,none⟩ u).setCell ⟨w.heap.size+1+1,1,none⟩ v).cell? ⟨w.heap.size,o,none⟩=W.cell? ⟨w.heap.size,o,none⟩:=fun W o u v=>cell_set2 (by omega)
  have L0:Hid (Live w0 s t w):=h
  clear h u hn hF
  unfold spotV ptr
  go_enter Tryz.func51,Tryz.ntmps51
  go_wp2_with fail
  go_region_held3 (fun w'=>w'.cell? ⟨w.heap.size,0,none⟩=some (.pointer (some ⟨n,0,none⟩))∧w'.cell? ⟨w.heap.size,1,none⟩=some (.int .i64 d)∧w'.cell? ⟨w.heap.size,2,none⟩=some (.int .i64 i)) (go_keep) (first|(go_at_call 73;refine (mAskS_any s t ⟨n,d,i⟩ _ ((Live.tn (w0:=w0) (t:=t) (L2.out.drew) HN.out hns).isNd) (Live.srch (w0:=w0) (L2.out.drew))).mono ?_;rintro e w1 ⟨⟨f,ok,rfl,hok⟩,u1⟩;have HOK:Hid (ok=true→Right w0 s t ⟨n,d,i⟩ f):=hok;have x9:=(SpAt.upd2 u1 (C1.out.alloc _) (by simp));have X1:Hid (SpAt w1 w.heap.size ⟨n,d,i⟩):=x9;obtain⟨x0,x1,x2,xz⟩:=x9.facts;clear x9;have U1:Hid (Upd [] w w1):=Upd.trans ((U.out.alloc _).drew) u1;have r1:PlAt w1 (w.heap.size+1) (fun _=>false):=PlAt.upd2 u1 (P1.out.alloc _) (by simp);have y1:=lt_of_heap r1;have R1:Hid (PlAt w1 (w.heap.size+1) (fun _=>false)):=r1;obtain⟨k0,k1,kz⟩:=r1.facts;have r2:PlAt w1 (w.heap.size+1+1) (fun _=>false):=PlAt.upd2 u1 P2.out (by simp);have y2:=lt_of_heap r2;obtain⟨k2,k3,ky⟩:=r2.facts;have R2:Hid (PlAt w1 (w.heap.size+1+1) (fun _=>false)):=r2;clear r2;clear u1 hok r1;unfold plV plCells)|(go_at_call 73;refine (mAskS_any s t ⟨n,d,i⟩ _ ((Live.tn (w0:=w0) (t:=t) (L1.out.drew) HN.out hns).isNd) (Live.srch (w0:=w0) (L1.out.drew))).mono ?_;rintro e w1 ⟨⟨f,ok,rfl,hok⟩,u1⟩;have HOK:Hid (ok=true→Right w0 s t ⟨n,d,i⟩ f):=hok;have x9:=(SpAt.upd2 u1 (C1.out) (by simp));have X1:Hid (SpAt w1 w.heap.size ⟨n,d,i⟩):=x9;obtain⟨x0,x1,x2,xz⟩:=x9.facts;clear x9;have U1:Hid (Upd [] w w1):=Upd.trans (U.out.drew) u1;have r1:PlAt w1 (w.heap.size+1) (fun _=>false):=PlAt.upd2 u1 (P1.out) (by simp);have y1:=lt_of_heap r1;have R1:Hid (PlAt w1 (w.heap.size+1) (fun _=>false)):=r1;obtain⟨k0,k1,kz⟩:=r1.facts;clear u1 hok r1;unfold plV plCells))
  ·have F2:Kn w0 s t w n d i w1.heap.size f (w1.alloc (.cells #[.int .u64 (word f 0 64),.int .u64 (word f 64 64)] 137)):=by
    have u2:Upd [] w1 (w1.alloc (.cells #[.int .u64 (word f 0 64),.int .u64 (word f 64 64)] 137)):=by (repeat (first|exact Upd.refl _ _|refine Upd.drewN ?_|refine Upd.drew ?_|refine Upd.setCell ?_ (by simp) _|refine Upd.alloc ?_ _))
    exact⟨L0.out.grow (U1.out.trans u2),U1.out.trans u2,SpAt.upd2 u2 X1.out (by simp),R1.out.upd u2 (by simp),heap_new rfl,by omega⟩
   revert F2
   generalize (w1.alloc (.cells #[.int .u64 (word f 0 64),.int .u64 (word f 64 64)] 137))=wx
   generalize w1.heap.size=kb at *
   intro F2
   obtain⟨k4,k5,kx⟩:=F2.kn.facts
   obtain⟨k0,k1,kz⟩:=F2.res.facts
   obtain⟨x0,x1,x2,xz⟩:=F2.sp.facts
   have y0:=lt_of_heap F2.sp
   have y1:=lt_of_heap F2.res
   have y2:=lt_of_heap F2.kn
   have FK:Hid (Kn w0 s t w n d i kb f wx):=F2
   clear F2
   cases ok with
   | true=>
    go_wp2_with fail
    refine bodyPost_ret (v:=.agg #[.int .u64 (word f 0 64),.int .u64 (word f 64 64)]) (by simp [results,Tryz.results51,go_sem,k0,k1,kz]) rfl ?_
    have u9:Upd [w.heap.size+1] wx ((wx.setCell ⟨w.heap.size+1,0,none⟩ (.int .u64 (word f 0 64))).setCell ⟨w.heap.size+1,1,none⟩ (.int .u64 (word f 64 64))):=by (repeat (first|exact Upd.refl _ _|refine Upd.drewN ?_|refine Upd.drew ?_|refine Upd.setCell ?_ (by simp) _|refine Upd.alloc ?_ _))
    exact⟨f,rfl,Right.ans (HOK.out (by trivial)) hT hC,(Upd.gone0 FK.out.upd).hide u9 (by simp),FK.out.live.pl u9 FK.out.res FK.out.res.store (by omega)⟩
   | false=>
    have LX:Hid (Live w0 s t wx):=FK.out.live
    have LY:Hid (Live w0 s t (wx.alloc (.cells #[.int .u64 0,.int .u64 0] 137))):=FK.out.live.grow ((Upd.refl _ _).alloc _)
    have PY:Hid (PlAt (wx.alloc (.cells #[.int .u64 0,.int .u64 0] 137)) wx.heap.size (fun _=>false)):=plZ (heap_new rfl)
    obtain⟨v0,v1,v2,v3,v4,v5,v6,v7,v8,v9,v10,v11,vz⟩:=(LX.out.tn HN.out hns).facts
    rw [hk] at v0
    obtain⟨m,sm,mm⟩:=LX.out.srch
    obtain⟨d0,d1,d2,d3,d4,d5,d6,d7,d8,dz⟩:=sm.facts
    have sx:=lt_of_heap sm
    have nx:n < wx.heap.size:=by omega
    clear mm sm
    have q1:∀ (W:World) (o:Nat) (u v:Value),((W.setCell ⟨wx.heap.size,0,none⟩ u).setCell ⟨wx.heap.size,1,none⟩ v).cell? ⟨w.heap.size,o,none⟩=W.cell? ⟨w.heap.size,o,none⟩:=fun W o u v=>cell_set2 (by omega)
    have q2:∀ (W:World) (o:Nat) (u v:Value),((W.setCell ⟨wx.heap.size,0,none⟩ u).setCell ⟨wx.heap.size,1,none⟩ v).cell? ⟨n,o,none⟩=W.cell? ⟨n,o,none⟩:=fun W o u v=>cell_set2 (by omega)
    have q3:∀ (W:World) (o:Nat) (u v:Value),((W.setCell ⟨wx.heap.size,0,none⟩ u).setCell ⟨wx.heap.size,1,none⟩ v).cell? ⟨s,o,none⟩=W.cell? ⟨s,o,none⟩:=fun W o u v=>cell_set2 (by omega)
    go_wp2_with fail
    go_region_held3 (fun w'=>w'.cell? ⟨w.heap.size,0,none⟩=some (.pointer (some ⟨n,0,none⟩))∧w'.cell? ⟨w.heap.size,1,none⟩=some (.int .i64 d)∧w'.cell? ⟨w.heap.size,2,none⟩=some (.int .i64 i)∧(by first|(guard_hyp hk:a.kind=0;exact w'.cell? ⟨n,0,none⟩=some (.int .i64 0)∧w'.cell? ⟨s,1,none⟩=some (.func (.func 66) #[] #[]))|(guard_hyp hk:a.kind=1;exact w'.cell? ⟨n,0,none⟩=some (.int .i64 1)∧w'.cell? ⟨s,2,none⟩=some (.func (.func 67) #[] #[]))|(guard_hyp hk:a.kind=2;exact w'.cell? ⟨n,0,none⟩=some (.int .i64 2)∧w'.cell? ⟨s,3,none⟩=some (.func (.func 68) #[] #[]))|(guard_hyp hk:a.kind=3;exact w'.cell? ⟨n,0,none⟩=some (.int .i64 3)∧w'.cell? ⟨s,4,none⟩=some (.func (.func 69) #[] #[]))|(guard_hyp hk:a.kind=4;exact w'.cell? ⟨n,0,none⟩=some (.int .i64 4)∧w'.cell? ⟨s,5,none⟩=some (.func (.func 70) #[] #[]))|(guard_hyp hk:a.kind=5;exact w'.cell? ⟨n,0,none⟩=some (.int .i64 5)∧w'.cell? ⟨s,6,none⟩=some (.func (.func 71) #[] #[]))|(guard_hyp hk:a.kind=6;exact w'.cell? ⟨n,0,none⟩=some (.int .i64 6)∧w'.cell? ⟨s,7,none⟩=some (.func (.func 72) #[] #[])))) (go_keep) (first|((first|go_at_call 66|go_at_call 67|go_at_call 68|go_at_call 69|go_at_call 70|go_at_call 71|go_at_call 72);refine (HF.out _ (LY.out.drew)).mono ?_;rintro e w3 ⟨f1,rfl,hf1,g1,l1⟩;have HF1:Hid (∀ j,j≤t.size→f1 j=Sp.spotM t tr d i j):=hf1;have L3:Hid (Live w0 s t w3):=l1;have G3:Hid (Gone s w w3):=(Upd.gone0 ((FK.out.upd.alloc _).drew)).trans g1;have sp3:=SpAt.gone2 g1 (FK.out.sp.alloc _) (by omega);have S3:Hid (SpAt w3 w.heap.size ⟨n,d,i⟩):=sp3;have r3:=PlAt.gone2 g1 (FK.out.res.alloc _) (by omega);have R3:Hid (PlAt w3 (w.heap.size+1) (fun _=>false)):=r3;obtain⟨x0,x1,x2,xz⟩:=sp3.facts;obtain⟨k0,k1,kz⟩:=r3.facts;have e0:=(l1.tn HN.out hns).facts.c0;rw [hk] at e0;obtain⟨m3,sm3,mm3⟩:=l1.srch;obtain⟨e1,e2,e3,e4,e5,e6,e7,e8,e9,ez⟩:=sm3.facts;have h3:=lt_of_heap sp3;have h4:=lt_of_heap r3;have p3:=PlAt.gone2 g1 PY.out (by omega);have P3:Hid (PlAt w3 wx.heap.size (fun _=>false)):=p3;obtain⟨k2,k3,ky⟩:=p3.facts;have h5:=lt_of_heap p3;clear p3;clear hf1 l1 g1 sp3 r3 sm3 mm3;unfold plV plCells)|((first|go_at_call 66|go_at_call 67|go_at_call 68|go_at_call 69|go_at_call 70|go_at_call 71|go_at_call 72);refine (HF.out _ (LX.out.drew)).mono ?_;rintro e w3 ⟨f1,rfl,hf1,g1,l1⟩;have HF1:Hid (∀ j,j≤t.size→f1 j=Sp.spotM t tr d i j):=hf1;have L3:Hid (Live w0 s t w3):=l1;have G3:Hid (Gone s w w3):=(Upd.gone0 (FK.out.upd.drew)).trans g1;have sp3:=SpAt.gone2 g1 (FK.out.sp) (by omega);have S3:Hid (SpAt w3 w.heap.size ⟨n,d,i⟩):=sp3;have r3:=PlAt.gone2 g1 (FK.out.res) (by omega);have R3:Hid (PlAt w3 (w.heap.size+1) (fun _=>false)):=r3;obtain⟨x0,x1,x2,xz⟩:=sp3.facts;obtain⟨k0,k1,kz⟩:=r3.facts;have e0:=(l1.tn HN.out hns).facts.c0;rw [hk] at e0;obtain⟨m3,sm3,mm3⟩:=l1.srch;obtain⟨e1,e2,e3,e4,e5,e6,e7,e8,e9,ez⟩:=sm3.facts;have h3:=lt_of_heap sp3;have h4:=lt_of_heap r3;clear hf1 l1 g1 sp3 r3 sm3 mm3;unfold plV plCells))
    ·have F3:FndS w0 s t w n d i w3.heap.size tr f1 (w3.alloc (.cells #[.int .u64 (word f1 0 64),.int .u64 (word f1 64 64)] 137)):=by
      have u2:Upd [] w3 (w3.alloc (.cells #[.int .u64 (word f1 0 64),.int .u64 (word f1 64 64)] 137)):=by (repeat (first|exact Upd.refl _ _|refine Upd.drewN ?_|refine Upd.drew ?_|refine Upd.setCell ?_ (by simp) _|refine Upd.alloc ?_ _))
      exact⟨L3.out.grow u2,G3.out.hide u2 (by simp),SpAt.upd2 u2 S3.out (by simp),R3.out.upd u2 (by simp),heap_new rfl,by omega,HF1.out⟩
     revert F3
     generalize (w3.alloc (.cells #[.int .u64 (word f1 0 64),.int .u64 (word f1 64 64)] 137))=wy
     generalize w3.heap.size=fb at *
     intro F3
     obtain⟨k2,k3,ky⟩:=F3.pl.facts
     obtain⟨k0,k1,kz⟩:=F3.res.facts
     obtain⟨x0,x1,x2,xz⟩:=F3.sp.facts
     have y5:=lt_of_heap F3.sp
     have y6:=lt_of_heap F3.res
     have y7:=lt_of_heap F3.pl
     have y8:=F3.live.lt
     have FF:Hid (FndS w0 s t w n d i fb tr f1 wy):=F3
     clear F3
     go_wp2_with fail
     go_region_held3 (fun w'=>w'.cell? ⟨w.heap.size,0,none⟩=some (.pointer (some ⟨n,0,none⟩))∧w'.cell? ⟨w.heap.size,1,none⟩=some (.int .i64 d)∧w'.cell? ⟨w.heap.size,2,none⟩=some (.int .i64 i)∧w'.cell? ⟨fb,0,none⟩=some (.int .u64 (word f1 0 64))∧w'.cell? ⟨fb,1,none⟩=some (.int .u64 (word f1 64 64))) (go_keep) (first|(go_at_call 74;refine (mKeep_any s t ⟨n,d,i⟩ f1 _ ((Live.tn FF.out.live.drew HN.out hns).isNd) (by show n≠s;omega) FF.out.live.drew.srch ⟨S,tr,hS,hT,hC,FF.out.ans⟩).mono ?_;rintro e w6 ⟨rfl,g6,r6⟩;have sp6:=SpAt.gone2 g6 FF.out.sp (by omega);have fb6:=PlAt.gone2 g6 FF.out.pl (by have:=FF.out.far;omega);have rs6:=PlAt.gone2 g6 FF.out.res (by omega);have RS:Hid (PlAt w6 (w.heap.size+1) (fun _=>false)):=rs6;have GG:Hid (Gone s w w6):=FF.out.gone.trans ((Upd.gone0 (Upd.refl [] _).drew).trans g6);have LL:Hid (Live w0 s t w6):=FF.out.live.drew.later g6 r6;obtain⟨x0,x1,x2,xz⟩:=sp6.facts;obtain⟨k2,k3,ky⟩:=fb6.facts;obtain⟨k0,k1,kz⟩:=rs6.facts;have h6:=lt_of_heap rs6;have h7:=lt_of_heap fb6;clear g6 r6 sp6 fb6 rs6))
     all_goals go_wp2_with fail
     all_goals
      refine bodyPost_ret (v:=.agg #[.int .u64 (word f1 0 64),.int .u64 (word f1 64 64)]) (by simp [results,Tryz.results51,go_sem,k0,k1,kz]) rfl ?_
      have u9:Upd [w.heap.size+1] w6 ((w6.setCell ⟨w.heap.size+1,0,none⟩ (.int .u64 (word f1 0 64))).setCell ⟨w.heap.size+1,1,none⟩ (.int .u64 (word f1 64 64))):=by (repeat (first|exact Upd.refl _ _|refine Upd.drewN ?_|refine Upd.drew ?_|refine Upd.setCell ?_ (by simp) _|refine Upd.alloc ?_ _))
      exact⟨f1,rfl,FF.out.ans,GG.out.hide u9 (by simp),LL.out.pl u9 RS.out RS.out.store (by omega)⟩
    ·have F3:FndS w0 s t w n d i wx.heap.size tr f1 ((w3.setCell ⟨wx.heap.size,0,none⟩ (.int .u64 (word f1 0 64))).setCell ⟨wx.heap.size,1,none⟩ (.int .u64 (word f1 64 64))):=by
      have u2:Upd [wx.heap.size] w3 ((w3.setCell ⟨wx.heap.size,0,none⟩ (.int .u64 (word f1 0 64))).setCell ⟨wx.heap.size,1,none⟩ (.int .u64 (word f1 64 64))):=by (repeat (first|exact Upd.refl _ _|refine Upd.drewN ?_|refine Upd.drew ?_|refine Upd.setCell ?_ (by simp) _|refine Upd.alloc ?_ _))
      exact⟨L3.out.pl u2 P3.out P3.out.store (by omega),G3.out.hide u2 (by simp;omega),SpAt.upd2 u2 S3.out (by simp;omega),R3.out.upd u2 (by simp;omega),P3.out.store,by omega,HF1.out⟩
     revert F3
     generalize ((w3.setCell ⟨wx.heap.size,0,none⟩ (.int .u64 (word f1 0 64))).setCell ⟨wx.heap.size,1,none⟩ (.int .u64 (word f1 64 64)))=wy
     generalize wx.heap.size=fb at *
     intro F3
     obtain⟨k2,k3,ky⟩:=F3.pl.facts
     obtain⟨k0,k1,kz⟩:=F3.res.facts
     obtain⟨x0,x1,x2,xz⟩:=F3.sp.facts
     have y5:=lt_of_heap F3.sp
     have y6:=lt_of_heap F3.res
     have y7:=lt_of_heap F3.pl
     have y8:=F3.live.lt
     have FF:Hid (FndS w0 s t w n d i fb tr f1 wy):=F3
     clear F3
     go_wp2_with fail
     go_region_held3 (fun w'=>w'.cell? ⟨w.heap.size,0,none⟩=some (.pointer (some ⟨n,0,none⟩))∧w'.cell? ⟨w.heap.size,1,none⟩=some (.int .i64 d)∧w'.cell? ⟨w.heap.size,2,none⟩=some (.int .i64 i)∧w'.cell? ⟨fb,0,none⟩=some (.int .u64 (word f1 0 64))∧w'.cell? ⟨fb,1,none⟩=some (.int .u64 (word f1 64 64))) (go_keep) (first|(go_at_call 74;refine (mKeep_any s t ⟨n,d,i⟩ f1 _ ((Live.tn FF.out.live.drew HN.out hns).isNd) (by show n≠s;omega) FF.out.live.drew.srch ⟨S,tr,hS,hT,hC,FF.out.ans⟩).mono ?_;rintro e w6 ⟨rfl,g6,r6⟩;have sp6:=SpAt.gone2 g6 FF.out.sp (by omega);have fb6:=PlAt.gone2 g6 FF.out.pl (by have:=FF.out.far;omega);have rs6:=PlAt.gone2 g6 FF.out.res (by omega);have RS:Hid (PlAt w6 (w.heap.size+1) (fun _=>false)):=rs6;have GG:Hid (Gone s w w6):=FF.out.gone.trans ((Upd.gone0 (Upd.refl [] _).drew).trans g6);have LL:Hid (Live w0 s t w6):=FF.out.live.drew.later g6 r6;obtain⟨x0,x1,x2,xz⟩:=sp6.facts;obtain⟨k2,k3,ky⟩:=fb6.facts;obtain⟨k0,k1,kz⟩:=rs6.facts;have h6:=lt_of_heap rs6;have h7:=lt_of_heap fb6;clear g6 r6 sp6 fb6 rs6))
     all_goals go_wp2_with fail
     all_goals
      refine bodyPost_ret (v:=.agg #[.int .u64 (word f1 0 64),.int .u64 (word f1 64 64)]) (by simp [results,Tryz.results51,go_sem,k0,k1,kz]) rfl ?_
      have u9:Upd [w.heap.size+1] w6 ((w6.setCell ⟨w.heap.size+1,0,none⟩ (.int .u64 (word f1 0 64))).setCell ⟨w.heap.size+1,1,none⟩ (.int .u64 (word f1 64 64))):=by (repeat (first|exact Upd.refl _ _|refine Upd.drewN ?_|refine Upd.drew ?_|refine Upd.setCell ?_ (by simp) _|refine Upd.alloc ?_ _))
      exact⟨f1,rfl,FF.out.ans,GG.out.hide u9 (by simp),LL.out.pl u9 RS.out RS.out.store (by omega)⟩
  ·have F2:Kn w0 s t w n d i (w.heap.size+1+1) f ((w1.setCell ⟨w.heap.size+1+1,0,none⟩ (.int .u64 (word f 0 64))).setCell ⟨w.heap.size+1+1,1,none⟩ (.int .u64 (word f 64 64))):=by
    have u2:Upd [w.heap.size+1+1] w1 ((w1.setCell ⟨w.heap.size+1+1,0,none⟩ (.int .u64 (word f 0 64))).setCell ⟨w.heap.size+1+1,1,none⟩ (.int .u64 (word f 64 64))):=by (repeat (first|exact Upd.refl _ _|refine Upd.drewN ?_|refine Upd.drew ?_|refine Upd.setCell ?_ (by simp) _|refine Upd.alloc ?_ _))
    exact⟨(L0.out.grow U1.out).pl u2 R2.out R2.out.store (by omega),Upd.hide U1.out u2 (by omega),SpAt.upd2 u2 X1.out (by simp;omega),R1.out.upd u2 (by simp),R2.out.store,by omega⟩
   revert F2
   generalize ((w1.setCell ⟨w.heap.size+1+1,0,none⟩ (.int .u64 (word f 0 64))).setCell ⟨w.heap.size+1+1,1,none⟩ (.int .u64 (word f 64 64)))=wx
   generalize w.heap.size+1+1=kb at *
   intro F2
   obtain⟨k4,k5,kx⟩:=F2.kn.facts
   obtain⟨k0,k1,kz⟩:=F2.res.facts
   obtain⟨x0,x1,x2,xz⟩:=F2.sp.facts
   have y0:=lt_of_heap F2.sp
   have y1:=lt_of_heap F2.res
   have y2:=lt_of_heap F2.kn
   have FK:Hid (Kn w0 s t w n d i kb f wx):=F2
   clear F2
   cases ok with
   | true=>
    go_wp2_with fail
    refine bodyPost_ret (v:=.agg #[.int .u64 (word f 0 64),.int .u64 (word f 64 64)]) (by simp [results,Tryz.results51,go_sem,k0,k1,kz]) rfl ?_
    have u9:Upd [w.heap.size+1] wx ((wx.setCell ⟨w.heap.size+1,0,none⟩ (.int .u64 (word f 0 64))).setCell ⟨w.heap.size+1,1,none⟩ (.int .u64 (word f 64 64))):=by (repeat (first|exact Upd.refl _ _|refine Upd.drewN ?_|refine Upd.drew ?_|refine Upd.setCell ?_ (by simp) _|refine Upd.alloc ?_ _))
    exact⟨f,rfl,Right.ans (HOK.out (by trivial)) hT hC,(Upd.gone0 FK.out.upd).hide u9 (by simp),FK.out.live.pl u9 FK.out.res FK.out.res.store (by omega)⟩
   | false=>
    have LX:Hid (Live w0 s t wx):=FK.out.live
    have LY:Hid (Live w0 s t (wx.alloc (.cells #[.int .u64 0,.int .u64 0] 137))):=FK.out.live.grow ((Upd.refl _ _).alloc _)
    have PY:Hid (PlAt (wx.alloc (.cells #[.int .u64 0,.int .u64 0] 137)) wx.heap.size (fun _=>false)):=plZ (heap_new rfl)
    obtain⟨v0,v1,v2,v3,v4,v5,v6,v7,v8,v9,v10,v11,vz⟩:=(LX.out.tn HN.out hns).facts
    rw [hk] at v0
    obtain⟨m,sm,mm⟩:=LX.out.srch
    obtain⟨d0,d1,d2,d3,d4,d5,d6,d7,d8,dz⟩:=sm.facts
    have sx:=lt_of_heap sm
    have nx:n < wx.heap.size:=by omega
    clear mm sm
    have q1:∀ (W:World) (o:Nat) (u v:Value),((W.setCell ⟨wx.heap.size,0,none⟩ u).setCell ⟨wx.heap.size,1,none⟩ v).cell? ⟨w.heap.size,o,none⟩=W.cell? ⟨w.heap.size,o,none⟩:=fun W o u v=>cell_set2 (by omega)
    have q2:∀ (W:World) (o:Nat) (u v:Value),((W.setCell ⟨wx.heap.size,0,none⟩ u).setCell ⟨wx.heap.size,1,none⟩ v).cell? ⟨n,o,none⟩=W.cell? ⟨n,o,none⟩:=fun W o u v=>cell_set2 (by omega)
    have q3:∀ (W:World) (o:Nat) (u v:Value),((W.setCell ⟨wx.heap.size,0,none⟩ u).setCell ⟨wx.heap.size,1,none⟩ v).cell? ⟨s,o,none⟩=W.cell? ⟨s,o,none⟩:=fun W o u v=>cell_set2 (by omega)
    go_wp2_with fail
    go_region_held3 (fun w'=>w'.cell? ⟨w.heap.size,0,none⟩=some (.pointer (some ⟨n,0,none⟩))∧w'.cell? ⟨w.heap.size,1,none⟩=some (.int .i64 d)∧w'.cell? ⟨w.heap.size,2,none⟩=some (.int .i64 i)∧(by first|(guard_hyp hk:a.kind=0;exact w'.cell? ⟨n,0,none⟩=some (.int .i64 0)∧w'.cell? ⟨s,1,none⟩=some (.func (.func 66) #[] #[]))|(guard_hyp hk:a.kind=1;exact w'.cell? ⟨n,0,none⟩=some (.int .i64 1)∧w'.cell? ⟨s,2,none⟩=some (.func (.func 67) #[] #[]))|(guard_hyp hk:a.kind=2;exact w'.cell? ⟨n,0,none⟩=some (.int .i64 2)∧w'.cell? ⟨s,3,none⟩=some (.func (.func 68) #[] #[]))|(guard_hyp hk:a.kind=3;exact w'.cell? ⟨n,0,none⟩=some (.int .i64 3)∧w'.cell? ⟨s,4,none⟩=some (.func (.func 69) #[] #[]))|(guard_hyp hk:a.kind=4;exact w'.cell? ⟨n,0,none⟩=some (.int .i64 4)∧w'.cell? ⟨s,5,none⟩=some (.func (.func 70) #[] #[]))|(guard_hyp hk:a.kind=5;exact w'.cell? ⟨n,0,none⟩=some (.int .i64 5)∧w'.cell? ⟨s,6,none⟩=some (.func (.func 71) #[] #[]))|(guard_hyp hk:a.kind=6;exact w'.cell? ⟨n,0,none⟩=some (.int .i64 6)∧w'.cell? ⟨s,7,none⟩=some (.func (.func 72) #[] #[])))) (go_keep) (first|((first|go_at_call 66|go_at_call 67|go_at_call 68|go_at_call 69|go_at_call 70|go_at_call 71|go_at_call 72);refine (HF.out _ (LY.out.drew)).mono ?_;rintro e w3 ⟨f1,rfl,hf1,g1,l1⟩;have HF1:Hid (∀ j,j≤t.size→f1 j=Sp.spotM t tr d i j):=hf1;have L3:Hid (Live w0 s t w3):=l1;have G3:Hid (Gone s w w3):=(Upd.gone0 ((FK.out.upd.alloc _).drew)).trans g1;have sp3:=SpAt.gone2 g1 (FK.out.sp.alloc _) (by omega);have S3:Hid (SpAt w3 w.heap.size ⟨n,d,i⟩):=sp3;have r3:=PlAt.gone2 g1 (FK.out.res.alloc _) (by omega);have R3:Hid (PlAt w3 (w.heap.size+1) (fun _=>false)):=r3;obtain⟨x0,x1,x2,xz⟩:=sp3.facts;obtain⟨k0,k1,kz⟩:=r3.facts;have e0:=(l1.tn HN.out hns).facts.c0;rw [hk] at e0;obtain⟨m3,sm3,mm3⟩:=l1.srch;obtain⟨e1,e2,e3,e4,e5,e6,e7,e8,e9,ez⟩:=sm3.facts;have h3:=lt_of_heap sp3;have h4:=lt_of_heap r3;have p3:=PlAt.gone2 g1 PY.out (by omega);have P3:Hid (PlAt w3 wx.heap.size (fun _=>false)):=p3;obtain⟨k2,k3,ky⟩:=p3.facts;have h5:=lt_of_heap p3;clear p3;clear hf1 l1 g1 sp3 r3 sm3 mm3;unfold plV plCells)|((first|go_at_call 66|go_at_call 67|go_at_call 68|go_at_call 69|go_at_call 70|go_at_call 71|go_at_call 72);refine (HF.out _ (LX.out.drew)).mono ?_;rintro e w3 ⟨f1,rfl,hf1,g1,l1⟩;have HF1:Hid (∀ j,j≤t.size→f1 j=Sp.spotM t tr d i j):=hf1;have L3:Hid (Live w0 s t w3):=l1;have G3:Hid (Gone s w w3):=(Upd.gone0 (FK.out.upd.drew)).trans g1;have sp3:=SpAt.gone2 g1 (FK.out.sp) (by omega);have S3:Hid (SpAt w3 w.heap.size ⟨n,d,i⟩):=sp3;have r3:=PlAt.gone2 g1 (FK.out.res) (by omega);have R3:Hid (PlAt w3 (w.heap.size+1) (fun _=>false)):=r3;obtain⟨x0,x1,x2,xz⟩:=sp3.facts;obtain⟨k0,k1,kz⟩:=r3.facts;have e0:=(l1.tn HN.out hns).facts.c0;rw [hk] at e0;obtain⟨m3,sm3,mm3⟩:=l1.srch;obtain⟨e1,e2,e3,e4,e5,e6,e7,e8,e9,ez⟩:=sm3.facts;have h3:=lt_of_heap sp3;have h4:=lt_of_heap r3;clear hf1 l1 g1 sp3 r3 sm3 mm3;unfold plV plCells))
    ·have F3:FndS w0 s t w n d i w3.heap.size tr f1 (w3.alloc (.cells #[.int .u64 (word f1 0 64),.int .u64 (word f1 64 64)] 137)):=by
      have u2:Upd [] w3 (w3.alloc (.cells #[.int .u64 (word f1 0 64),.int .u64 (word f1 64 64)] 137)):=by (repeat (first|exact Upd.refl _ _|refine Upd.drewN ?_|refine Upd.drew ?_|refine Upd.setCell ?_ (by simp) _|refine Upd.alloc ?_ _))
      exact⟨L3.out.grow u2,G3.out.hide u2 (by simp),SpAt.upd2 u2 S3.out (by simp),R3.out.upd u2 (by simp),heap_new rfl,by omega,HF1.out⟩
     revert F3
     generalize (w3.alloc (.cells #[.int .u64 (word f1 0 64),.int .u64 (word f1 64 64)] 137))=wy
     generalize w3.heap.size=fb at *
     intro F3
     obtain⟨k2,k3,ky⟩:=F3.pl.facts
     obtain⟨k0,k1,kz⟩:=F3.res.facts
     obtain⟨x0,x1,x2,xz⟩:=F3.sp.facts
     have y5:=lt_of_heap F3.sp
     have y6:=lt_of_heap F3.res
     have y7:=lt_of_heap F3.pl
     have y8:=F3.live.lt
     have FF:Hid (FndS w0 s t w n d i fb tr f1 wy):=F3
     clear F3
     go_wp2_with fail
     go_region_held3 (fun w'=>w'.cell? ⟨w.heap.size,0,none⟩=some (.pointer (some ⟨n,0,none⟩))∧w'.cell? ⟨w.heap.size,1,none⟩=some (.int .i64 d)∧w'.cell? ⟨w.heap.size,2,none⟩=some (.int .i64 i)∧w'.cell? ⟨fb,0,none⟩=some (.int .u64 (word f1 0 64))∧w'.cell? ⟨fb,1,none⟩=some (.int .u64 (word f1 64 64))) (go_keep) (first|(go_at_call 74;refine (mKeep_any s t ⟨n,d,i⟩ f1 _ ((Live.tn FF.out.live.drew HN.out hns).isNd) (by show n≠s;omega) FF.out.live.drew.srch ⟨S,tr,hS,hT,hC,FF.out.ans⟩).mono ?_;rintro e w6 ⟨rfl,g6,r6⟩;have sp6:=SpAt.gone2 g6 FF.out.sp (by omega);have fb6:=PlAt.gone2 g6 FF.out.pl (by have:=FF.out.far;omega);have rs6:=PlAt.gone2 g6 FF.out.res (by omega);have RS:Hid (PlAt w6 (w.heap.size+1) (fun _=>false)):=rs6;have GG:Hid (Gone s w w6):=FF.out.gone.trans ((Upd.gone0 (Upd.refl [] _).drew).trans g6);have LL:Hid (Live w0 s t w6):=FF.out.live.drew.later g6 r6;obtain⟨x0,x1,x2,xz⟩:=sp6.facts;obtain⟨k2,k3,ky⟩:=fb6.facts;obtain⟨k0,k1,kz⟩:=rs6.facts;have h6:=lt_of_heap rs6;have h7:=lt_of_heap fb6;clear g6 r6 sp6 fb6 rs6))
     all_goals go_wp2_with fail
     all_goals
      refine bodyPost_ret (v:=.agg #[.int .u64 (word f1 0 64),.int .u64 (word f1 64 64)]) (by simp [results,Tryz.results51,go_sem,k0,k1,kz]) rfl ?_
      have u9:Upd [w.heap.size+1] w6 ((w6.setCell ⟨w.heap.size+1,0,none⟩ (.int .u64 (word f1 0 64))).setCell ⟨w.heap.size+1,1,none⟩ (.int .u64 (word f1 64 64))):=by (repeat (first|exact Upd.refl _ _|refine Upd.drewN ?_|refine Upd.drew ?_|refine Upd.setCell ?_ (by simp) _|refine Upd.alloc ?_ _))
      exact⟨f1,rfl,FF.out.ans,GG.out.hide u9 (by simp),LL.out.pl u9 RS.out RS.out.store (by omega)⟩
    ·have F3:FndS w0 s t w n d i wx.heap.size tr f1 ((w3.setCell ⟨wx.heap.size,0,none⟩ (.int .u64 (word f1 0 64))).setCell ⟨wx.heap.size,1,none⟩ (.int .u64 (word f1 64 64))):=by
      have u2:Upd [wx.heap.size] w3 ((w3.setCell ⟨wx.heap.size,0,none⟩ (.int .u64 (word f1 0 64))).setCell ⟨wx.heap.size,1,none⟩ (.int .u64 (word f1 64 64))):=by (repeat (first|exact Upd.refl _ _|refine Upd.drewN ?_|refine Upd.drew ?_|refine Upd.setCell ?_ (by simp) _|refine Upd.alloc ?_ _))
      exact⟨L3.out.pl u2 P3.out P3.out.store (by omega),G3.out.hide u2 (by simp;omega),SpAt.upd2 u2 S3.out (by simp;omega),R3.out.upd u2 (by simp;omega),P3.out.store,by omega,HF1.out⟩
     revert F3
     generalize ((w3.setCell ⟨wx.heap.size,0,none⟩ (.int .u64 (word f1 0 64))).setCell ⟨wx.heap.size,1,none⟩ (.int .u64 (word f1 64 64)))=wy
     generalize wx.heap.size=fb at *
     intro F3
     obtain⟨k2,k3,ky⟩:=F3.pl.facts
     obtain⟨k0,k1,kz⟩:=F3.res.facts
     obtain⟨x0,x1,x2,xz⟩:=F3.sp.facts
     have y5:=lt_of_heap F3.sp
     have y6:=lt_of_heap F3.res
     have y7:=lt_of_heap F3.pl
     have y8:=F3.live.lt
     have FF:Hid (FndS w0 s t w n d i fb tr f1 wy):=F3
     clear F3
     go_wp2_with fail
     go_region_held3 (fun w'=>w'.cell? ⟨w.heap.size,0,none⟩=some (.pointer (some ⟨n,0,none⟩))∧w'.cell? ⟨w.heap.size,1,none⟩=some (.int .i64 d)∧w'.cell? ⟨w.heap.size,2,none⟩=some (.int .i64 i)∧w'.cell? ⟨fb,0,none⟩=some (.int .u64 (word f1 0 64))∧w'.cell? ⟨fb,1,none⟩=some (.int .u64 (word f1 64 64))) (go_keep) (first|(go_at_call 74;refine (mKeep_any s t ⟨n,d,i⟩ f1 _ ((Live.tn FF.out.live.drew HN.out hns).isNd) (by show n≠s;omega) FF.out.live.drew.srch ⟨S,tr,hS,hT,hC,FF.out.ans⟩).mono ?_;rintro e w6 ⟨rfl,g6,r6⟩;have sp6:=SpAt.gone2 g6 FF.out.sp (by omega);have fb6:=PlAt.gone2 g6 FF.out.pl (by have:=FF.out.far;omega);have rs6:=PlAt.gone2 g6 FF.out.res (by omega);have RS:Hid (PlAt w6 (w.heap.size+1) (fun _=>false)):=rs6;have GG:Hid (Gone s w w6):=FF.out.gone.trans ((Upd.gone0 (Upd.refl [] _).drew).trans g6);have LL:Hid (Live w0 s t w6):=FF.out.live.drew.later g6 r6;obtain⟨x0,x1,x2,xz⟩:=sp6.facts;obtain⟨k2,k3,ky⟩:=fb6.facts;obtain⟨k0,k1,kz⟩:=rs6.facts;have h6:=lt_of_heap rs6;have h7:=lt_of_heap fb6;clear g6 r6 sp6 fb6 rs6))
     all_goals go_wp2_with fail
     all_goals
      refine bodyPost_ret (v:=.agg #[.int .u64 (word f1 0 64),.int .u64 (word f1 64 64)]) (by simp [results,Tryz.results51,go_sem,k0,k1,kz]) rfl ?_
      have u9:Upd [w.heap.size+1] w6 ((w6.setCell ⟨w.heap.size+1,0,none⟩ (.int .u64 (word f1 0 64))).setCell ⟨w.heap.size+1,1,none⟩ (.int .u64 (word f1 64 64))):=by (repeat (first|exact Upd.refl _ _|refine Upd.drewN ?_|refine Upd.drew ?_|refine Upd.setCell ?_ (by simp) _|refine Upd.alloc ?_ _))
      exact⟨f1,rfl,FF.out.ans,GG.out.hide u9 (by simp),LL.out.pl u9 RS.out RS.out.store (by omega)⟩
theorem mEnds_0 (w0:World) (s n d i:Nat) (S:Nat→Prop) (t:ByteArray) (tr:Tr) (a:TN) (hS:∀ k,S k→k < s) (hT:NodesAt w0 S [n] [tr]) (hC:Sp.Can [tr]) (hn:TnAt w0 n a) (hns:n < s) (hk:a.kind=0) (hF:FindC w0 s t 66 n tr d i):EndsC w0 s t n tr d i:=mEnds_any w0 s n d i S t tr a hS hT hC hn hns (.inl ⟨hk,hF⟩)
theorem mEnds_1 (w0:World) (s n d i:Nat) (S:Nat→Prop) (t:ByteArray) (tr:Tr) (a:TN) (hS:∀ k,S k→k < s) (hT:NodesAt w0 S [n] [tr]) (hC:Sp.Can [tr]) (hn:TnAt w0 n a) (hns:n < s) (hk:a.kind=1) (hF:FindC w0 s t 67 n tr d i):EndsC w0 s t n tr d i:=mEnds_any w0 s n d i S t tr a hS hT hC hn hns (.inr (.inl ⟨hk,hF⟩))
theorem mEnds_2 (w0:World) (s n d i:Nat) (S:Nat→Prop) (t:ByteArray) (tr:Tr) (a:TN) (hS:∀ k,S k→k < s) (hT:NodesAt w0 S [n] [tr]) (hC:Sp.Can [tr]) (hn:TnAt w0 n a) (hns:n < s) (hk:a.kind=2) (hF:FindC w0 s t 68 n tr d i):EndsC w0 s t n tr d i:=mEnds_any w0 s n d i S t tr a hS hT hC hn hns (.inr (.inr (.inl ⟨hk,hF⟩)))
theorem mEnds_3 (w0:World) (s n d i:Nat) (S:Nat→Prop) (t:ByteArray) (tr:Tr) (a:TN) (hS:∀ k,S k→k < s) (hT:NodesAt w0 S [n] [tr]) (hC:Sp.Can [tr]) (hn:TnAt w0 n a) (hns:n < s) (hk:a.kind=3) (hF:FindC w0 s t 69 n tr d i):EndsC w0 s t n tr d i:=mEnds_any w0 s n d i S t tr a hS hT hC hn hns (.inr (.inr (.inr (.inl ⟨hk,hF⟩))))
theorem mEnds_4 (w0:World) (s n d i:Nat) (S:Nat→Prop) (t:ByteArray) (tr:Tr) (a:TN) (hS:∀ k,S k→k < s) (hT:NodesAt w0 S [n] [tr]) (hC:Sp.Can [tr]) (hn:TnAt w0 n a) (hns:n < s) (hk:a.kind=4) (hF:FindC w0 s t 70 n tr d i):EndsC w0 s t n tr d i:=mEnds_any w0 s n d i S t tr a hS hT hC hn hns (.inr (.inr (.inr (.inr (.inl ⟨hk,hF⟩)))))
theorem mEnds_5 (w0:World) (s n d i:Nat) (S:Nat→Prop) (t:ByteArray) (tr:Tr) (a:TN) (hS:∀ k,S k→k < s) (hT:NodesAt w0 S [n] [tr]) (hC:Sp.Can [tr]) (hn:TnAt w0 n a) (hns:n < s) (hk:a.kind=5) (hF:FindC w0 s t 71 n tr d i):EndsC w0 s t n tr d i:=mEnds_any w0 s n d i S t tr a hS hT hC hn hns (.inr (.inr (.inr (.inr (.inr (.inl ⟨hk,hF⟩))))))
theorem mEnds_6 (w0:World) (s n d i:Nat) (S:Nat→Prop) (t:ByteArray) (tr:Tr) (a:TN) (hS:∀ k,S k→k < s) (hT:NodesAt w0 S [n] [tr]) (hC:Sp.Can [tr]) (hn:TnAt w0 n a) (hns:n < s) (hk:a.kind=6) (hF:FindC w0 s t 72 n tr d i):EndsC w0 s t n tr d i:=mEnds_any w0 s n d i S t tr a hS hT hC hn hns (.inr (.inr (.inr (.inr (.inr (.inr (⟨hk,hF⟩)))))))
end Go.Proofs.YtcpfpnjkfahjcaaGreat
