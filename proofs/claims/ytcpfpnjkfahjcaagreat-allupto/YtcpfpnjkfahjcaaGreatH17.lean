import Derived.Test.YtcpfpnjkfahjcaaGreatH16
import Derived.Deep.RegionHeld3
set_option linter.unusedSimpArgs false
set_option linter.unusedVariables false
namespace Go.Proofs.YtcpfpnjkfahjcaaGreat
open Go.RowKit
theorem GotEnds.mk2 {w0:World} {s:Nat} {t:ByteArray} {w W w1:World} {p:Nat} {m f:Nat→Bool} (u:Upd [] w W) (hs:s < w.heap.size) (hp:w.heap.size≤p) (P:PlAt W p (fun _=>false)) (g:Gone s W w1) (l:Live w0 s t w1) (hf:∀ j,j≤t.size→f j=m j):GotEnds w0 s t w p m f w1:=
 ⟨hp,P.gone g (by omega),(u.gone (by simp)).trans g,l,hf⟩
theorem SpAt.gone2 {s:Nat} {w w':World} (g:Gone s w w') {p:Nat} {x:Spot} (h:SpAt w p x) (hp:p≠s):SpAt w' p x:=h.gone g hp
theorem cell_eq {w w':World} {p:Nat} (h:w'.heap[p]?=w.heap[p]?) (o:Nat):w'.cell? ⟨p,o,none⟩=w.cell? ⟨p,o,none⟩:=by simp [World.cell?,h]
theorem cell_set2 {w:World} {p k o:Nat} {u v:Value} (h:k≠p):((w.setCell ⟨p,0,none⟩ u).setCell ⟨p,1,none⟩ v).cell? ⟨k,o,none⟩=w.cell? ⟨k,o,none⟩:=
 cell_eq ((Below.heap_setCell _ _ _ _ h).trans (Below.heap_setCell _ _ _ _ h)) o
def BehindC (w0:World) (s:Nat) (t:ByteArray) (n d i p lo:Nat) (m:Nat→Bool):Prop:=
 ∀ w,Live w0 s t w→Calls Tryz.prog 93 #[ptr s,spotV ⟨n,d,i⟩,ptr p,.int .i64 lo] w (EndsOut w0 s t m w)
theorem mBehindC (w0:World) (s n p d i lo:Nat) (t:ByteArray) (tr pt:Tr) (a:TN) (ht:t.size≤100) (hlo:lo≤101) (hd:d < 1000) (hn:TnAt w0 n a) (hns:n < s) (hl:0≤a.least)
  (h1:EndsC w0 s t p pt 0 i) (h2:∀ k,lo≤k→k≤t.size→(Sp.sem t pt).m i k=true→EndsC w0 s t n tr (nextD a d) k) :
  BehindC w0 s t n d i p lo (fun j=>Sp.cutB (Sp.sem t pt).m (Sp.spotM t tr (nextD a d)) lo i j):=
 fun w h=>mBehind_any w0 s n p d i lo t tr pt a w h ht hlo hd hn hns hl h1 h2
set_option maxHeartbeats 1600000 in
theorem mRowE_some (w0:World) (s n d i g cap len q:Nat) (t:ByteArray) (m:Nat→Bool) (a:TN) (w:World) (h:Live w0 s t w) (hn:TnAt w0 n a) (hns:n < s) (hp:a.parts=.slice (some ⟨g,0,none⟩) len cap) (hg:g < s) (hd:d < len) (hd2:len≤1000) (hc:w0.cell? ⟨g,d,none⟩=some (ptr q)) (h1:BehindC w0 s t n d i q i m) :
  Calls Tryz.prog 71 #[ptr s,spotV ⟨n,d,i⟩] w (EndsOut w0 s t m w):=by
 have H1:Hid (BehindC w0 s t n d i q i m):=h1
 have hs:=h.lt
 have n0:n < w.heap.size:=by omega
 have n1:n < w.heap.size+1:=by omega
 have g0:g < w.heap.size:=by omega
 have g1:g < w.heap.size+1:=by omega
 have hd':(d:Int) < len:=by omega
 have kn:∀ (W:World) (o:Nat) (u v:Value),((W.setCell ⟨w.heap.size+1,0,none⟩ u).setCell ⟨w.heap.size+1,1,none⟩ v).cell? ⟨n,o,none⟩=W.cell? ⟨n,o,none⟩:=fun W o u v=>cell_set2 (by omega)
 have kg:∀ (W:World) (o:Nat) (u v:Value),((W.setCell ⟨w.heap.size+1,0,none⟩ u).setCell ⟨w.heap.size+1,1,none⟩ v).cell? ⟨g,o,none⟩=W.cell? ⟨g,o,none⟩:=fun W o u v=>cell_set2 (by omega)
 obtain⟨c0,c1,c2,c3,c4,c5,c6,c7,c8,c9,c10,c11,fz⟩:=(h.tn hn hns).facts
 have cq:w.cell? ⟨g,d,none⟩=some (.pointer (some ⟨q,0,none⟩)):=h.cell hc hg
 rw [hp] at c2
 have u:Upd [] w ((w.alloc (.cells #[.pointer (some ⟨n,0,none⟩),.int .i64 d,.int .i64 i] 140)).alloc (.cells #[.int .u64 0,.int .u64 0] 137)):=by (repeat (first|exact Upd.refl _ _|refine Upd.drewN ?_|refine Upd.drew ?_|refine Upd.setCell ?_ (by simp) _|refine Upd.alloc ?_ _))
 have U:Hid (Upd [] w ((w.alloc (.cells #[.pointer (some ⟨n,0,none⟩),.int .i64 d,.int .i64 i] 140)).alloc (.cells #[.int .u64 0,.int .u64 0] 137))):=u
 have L1:Hid (Live w0 s t ((w.alloc (.cells #[.pointer (some ⟨n,0,none⟩),.int .i64 d,.int .i64 i] 140)).alloc (.cells #[.int .u64 0,.int .u64 0] 137))):=h.grow u
 have P1:Hid (PlAt ((w.alloc (.cells #[.pointer (some ⟨n,0,none⟩),.int .i64 d,.int .i64 i] 140)).alloc (.cells #[.int .u64 0,.int .u64 0] 137)) (w.heap.size+1) (fun _=>false)):=plZ (heap_new (by simp))
 have C1:Hid (SpAt ((w.alloc (.cells #[.pointer (some ⟨n,0,none⟩),.int .i64 d,.int .i64 i] 140)).alloc (.cells #[.int .u64 0,.int .u64 0] 137)) w.heap.size ⟨n,d,i⟩):=(SpAt.new rfl).alloc _
 have HN:Hid (TnAt w0 n a):=hn
 have HC:Hid (w0.cell? ⟨g,d,none⟩=some (ptr q)):=hc
 clear h u h1 hn hc
 unfold spotV ptr
 go_enter Tryz.func71,Tryz.ntmps71
 go_wp2_with fail
 go_quiet (fail)
 go_wp2_with fail
 go_region_held3 (fun w'=>w'.cell? ⟨w.heap.size,0,none⟩=some (.pointer (some ⟨n,0,none⟩))∧w'.cell? ⟨w.heap.size,1,none⟩=some (.int .i64 d)∧w'.cell? ⟨w.heap.size,2,none⟩=some (.int .i64 i)∧w'.cell? ⟨n,2,none⟩=some (.slice (some ⟨g,0,none⟩) len cap)∧w'.cell? ⟨g,d,none⟩=some (.pointer (some ⟨q,0,none⟩))) (go_keep) (first|(go_at_call 93;refine (H1.out _ (L1.out.grow (Upd.refl _ _).drewN.drew)).mono ?_;rintro e w1 ⟨f1,rfl,hf1,g1,l1⟩;have HG:Hid (GotEnds w0 s t w (w.heap.size+1) m f1 w1):=GotEnds.mk2 U.out.drewN.drew hs (by omega) (by exact P1.out) g1 l1 hf1;obtain⟨x0,x1,x2,xz⟩:=(SpAt.gone2 g1 (by exact C1.out) (by omega)).facts;have x3:=(l1.tn HN.out hns).facts.c2;rw [hp] at x3;have x4:w1.cell? ⟨g,d,none⟩=some (.pointer (some ⟨q,0,none⟩)):=l1.cell HC.out hg;clear hf1 g1 l1;obtain⟨k0,k1,kz⟩:=HG.out.pl.facts;unfold plV plCells))
 all_goals go_wp2_with fail
 all_goals
  refine bodyPost_ret (v:=.agg #[.int .u64 (word f1 0 64),.int .u64 (word f1 64 64)]) (by simp [results,Tryz.results71,go_sem,k0,k1,kz]) rfl ?_
  exact HG.out.out hs
set_option maxHeartbeats 1600000 in
theorem mRowE_done (w0:World) (s n d i cap len:Nat) (pa:Option Addr) (t:ByteArray) (a:TN) (w:World) (h:Live w0 s t w) (hn:TnAt w0 n a) (hns:n < s) (hp:a.parts=.slice pa len cap) (hd:d=len) (hi:i < 128) :
  Calls Tryz.prog 71 #[ptr s,spotV ⟨n,d,i⟩] w (EndsOut w0 s t (fun j=>j == i) w):=by
 have hs:=h.lt
 have n0:n < w.heap.size:=by omega
 have n1:n < w.heap.size+1:=by omega
 have hd':¬ (d:Int) < len:=by omega
 have hd2:¬ d < len:=by omega
 obtain⟨c0,c1,c2,c3,c4,c5,c6,c7,c8,c9,c10,c11,fz⟩:=(h.tn hn hns).facts
 rw [hp] at c2
 have HL:Hid (Live w0 s t w):=h
 clear h hn
 unfold spotV ptr
 go_enter Tryz.func71,Tryz.ntmps71
 go_wp2_with fail
 go_quiet (fail)
 go_wp2_with fail
 refine (mAdd_any _ (fun _=>false) i _ (plZ (heap_new (by simp))) hi).mono ?_
 rintro e w2 ⟨rfl,u2,p2⟩
 have q0:PlAt (((w.alloc (.cells #[.pointer (some ⟨n,0,none⟩),.int .i64 len,.int .i64 i] 140)).alloc (.cells #[.int .u64 0,.int .u64 0] 137)).drewN nq) (w.heap.size+1) (fun _=>false):=plZ (heap_new (by simp))
 have q1:PlAt w2 (w.heap.size+1) (fun _=>false):=(q0.alloc _).upd u2 (by simp)
 have hu:Upd [] w w2:=Upd.hide (by (repeat (first|exact Upd.refl _ _|refine Upd.drewN ?_|refine Upd.drew ?_|refine Upd.setCell ?_ (by simp) _|refine Upd.alloc ?_ _))) u2 (by omega)
 obtain⟨k0,k1,kz⟩:=q1.facts
 obtain⟨k2,k3,ky⟩:=p2.facts
 have HG:Hid (GotEnds w0 s t w (w.heap.size+1) (fun j=>j == i) (fun x=>x == i) w2):=GotEnds.mk2 hu hs (by omega) q1 (Gone.refl s w2) (HL.out.grow hu) (fun j hj=>rfl)
 clear u2 p2 q0 q1 hu
 go_wp2_with fail
 refine bodyPost_ret (v:=.agg #[.int .u64 (word (fun x=>x == i) 0 64),.int .u64 (word (fun x=>x == i) 64 64)]) (by simp [results,Tryz.results71,go_sem,k0,k1,kz]) rfl ?_
 exact HG.out.out hs
theorem PlAt.dr {w:World} {p:Nat} {f:Nat→Bool} (h:PlAt w p f) {k:Nat}:PlAt (w.drewN k) p f:=h
theorem PlAt.gone2 {s:Nat} {w w':World} (g:Gone s w w') {p:Nat} {f:Nat→Bool} (h:PlAt w p f) (hp:p≠s):PlAt w' p f:=h.gone g hp
theorem Upd.gone0 {s:Nat} {w w':World} (h:Upd [] w w'):Gone s w w':=h.gone (by simp)
set_option maxRecDepth 4000 in
set_option maxHeartbeats 1600000 in
theorem mTurnsE_less (w0:World) (s n d i g cap q:Nat) (t:ByteArray) (m:Nat→Bool) (a:TN) (w:World) (h:Live w0 s t w) (hn:TnAt w0 n a) (hns:n < s) (hp:a.parts=.slice (some ⟨g,0,none⟩) 1 cap) (hg:g < s) (hc:w0.cell? ⟨g,0,none⟩=some (ptr q)) (hl:(d:Int) < a.least) (h1:BehindC w0 s t n d i q i m) :
  Calls Tryz.prog 70 #[ptr s,spotV ⟨n,d,i⟩] w (EndsOut w0 s t m w):=by
 have hs:=h.lt
 have n0:n < w.heap.size:=by omega
 have n1:n < w.heap.size+1:=by omega
 have g0:g < w.heap.size:=by omega
 have g1:g < w.heap.size+1:=by omega
 obtain⟨c0,c1,c2,c3,c4,c5,c6,c7,c8,c9,c10,c11,fz⟩:=(h.tn hn hns).facts
 have cq:w.cell? ⟨g,0,none⟩=some (.pointer (some ⟨q,0,none⟩)):=h.cell hc hg
 rw [hp] at c2
 have HL:Hid (Live w0 s t w):=h
 have U:Hid (Upd [] w ((w.alloc (.cells #[.pointer (some ⟨n,0,none⟩),.int .i64 d,.int .i64 i] 140)).alloc (.cells #[.int .u64 0,.int .u64 0] 137))):=by show Upd _ _ _;(repeat (first|exact Upd.refl _ _|refine Upd.drewN ?_|refine Upd.drew ?_|refine Upd.setCell ?_ (by simp) _|refine Upd.alloc ?_ _))
 have P1:Hid (PlAt ((w.alloc (.cells #[.pointer (some ⟨n,0,none⟩),.int .i64 d,.int .i64 i] 140)).alloc (.cells #[.int .u64 0,.int .u64 0] 137)) (w.heap.size+1) (fun _=>false)):=plZ (heap_new (by simp))
 have C1:Hid (SpAt ((w.alloc (.cells #[.pointer (some ⟨n,0,none⟩),.int .i64 d,.int .i64 i] 140)).alloc (.cells #[.int .u64 0,.int .u64 0] 137)) w.heap.size ⟨n,d,i⟩):=(SpAt.new rfl).alloc _
 have HN:Hid (TnAt w0 n a):=hn
 have H1:Hid (BehindC w0 s t n d i q i m):=h1
 clear h hn hc h1
 unfold spotV ptr
 go_enter Tryz.func70,Tryz.ntmps70
 go_wp2_with fail
 go_quiet (fail)
 go_wp2_with fail
 refine (H1.out _ (HL.out.grow U.out.drewN)).mono ?_
 rintro e w1 ⟨f1,rfl,hf1,g1,l1⟩
 have HG:Hid (GotEnds w0 s t w (w.heap.size+1) m f1 w1):=GotEnds.mk2 U.out.drewN hs (by omega) (by exact P1.out) g1 l1 hf1
 clear hf1 g1 l1
 obtain⟨k0,k1,kz⟩:=HG.out.pl.facts
 unfold plV plCells
 go_wp2_with fail
 refine bodyPost_ret (v:=.agg #[.int .u64 (word f1 0 64),.int .u64 (word f1 64 64)]) (by simp [results,Tryz.results70,go_sem,k0,k1,kz]) rfl ?_
 exact HG.out.out hs
set_option maxRecDepth 4000 in
set_option maxHeartbeats 1600000 in
theorem mTurnsE_more (w0:World) (s n d i g cap q:Nat) (t:ByteArray) (m:Nat→Bool) (a:TN) (w:World) (h:Live w0 s t w) (hn:TnAt w0 n a) (hns:n < s) (hp:a.parts=.slice (some ⟨g,0,none⟩) 1 cap) (hg:g < s) (hc:w0.cell? ⟨g,0,none⟩=some (ptr q)) (hl:a.least≤d) (hm:(d:Int)≠a.most) (hi:i < 127) (h1:BehindC w0 s t n d i q (i+1) m) :
  Calls Tryz.prog 70 #[ptr s,spotV ⟨n,d,i⟩] w (EndsOut w0 s t (fun j=>m j || j == i) w):=by
 have hs:=h.lt
 have n0:n < w.heap.size:=by omega
 have n1:n < w.heap.size+1:=by omega
 have g0:g < w.heap.size:=by omega
 have g1:g < w.heap.size+1:=by omega
 obtain⟨c0,c1,c2,c3,c4,c5,c6,c7,c8,c9,c10,c11,fz⟩:=(h.tn hn hns).facts
 have cq:w.cell? ⟨g,0,none⟩=some (.pointer (some ⟨q,0,none⟩)):=h.cell hc hg
 rw [hp] at c2
 have HL:Hid (Live w0 s t w):=h
 have U:Hid (Upd [] w ((w.alloc (.cells #[.pointer (some ⟨n,0,none⟩),.int .i64 d,.int .i64 i] 140)).alloc (.cells #[.int .u64 0,.int .u64 0] 137))):=by show Upd _ _ _;(repeat (first|exact Upd.refl _ _|refine Upd.drewN ?_|refine Upd.drew ?_|refine Upd.setCell ?_ (by simp) _|refine Upd.alloc ?_ _))
 have P1:Hid (PlAt ((w.alloc (.cells #[.pointer (some ⟨n,0,none⟩),.int .i64 d,.int .i64 i] 140)).alloc (.cells #[.int .u64 0,.int .u64 0] 137)) (w.heap.size+1) (fun _=>false)):=plZ (heap_new (by simp))
 have C1:Hid (SpAt ((w.alloc (.cells #[.pointer (some ⟨n,0,none⟩),.int .i64 d,.int .i64 i] 140)).alloc (.cells #[.int .u64 0,.int .u64 0] 137)) w.heap.size ⟨n,d,i⟩):=(SpAt.new rfl).alloc _
 have HN:Hid (TnAt w0 n a):=hn
 have H1:Hid (BehindC w0 s t n d i q (i+1) m):=h1
 have hnl:¬ (d:Int) < a.least:=by omega
 have hm':((d:Int) == a.most)=false:=by simpa using hm
 have hi2:(i:Int) < 128:=by omega
 clear h hn hc h1
 unfold spotV ptr
 go_enter Tryz.func70,Tryz.ntmps70
 go_wp2_with fail
 go_quiet (fail)
 go_wp2_with fail
 go_quiet (fail)
 go_wp2_with fail
 rw [show ((i:Int)+1)=((i+1:Nat):Int) by omega]
 refine (H1.out _ (HL.out.grow (by (repeat (first|exact Upd.refl _ _|refine Upd.drewN ?_|refine Upd.drew ?_|refine Upd.setCell ?_ (by simp) _|refine Upd.alloc ?_ _))))).mono ?_
 rintro e w1 ⟨f1,rfl,hf1,g1,l1⟩
 have r1:PlAt w1 (w.heap.size+1) (fun _=>false):=PlAt.gone2 g1 (((PlAt.dr (plZ (heap_new (by simp)))).alloc _).dr) (by omega)
 have r2:PlAt w1 (w.heap.size+1+1) (fun _=>false):=PlAt.gone2 g1 (PlAt.dr (plZ (heap_new (by simp)))) (by omega)
 have G:Hid (Gone s w w1):=(Upd.gone0 (by (repeat (first|exact Upd.refl _ _|refine Upd.drewN ?_|refine Upd.drew ?_|refine Upd.setCell ?_ (by simp) _|refine Upd.alloc ?_ _)))).trans g1
 have HL1:Hid (Live w0 s t w1):=l1
 have HF:Hid (∀ j,j≤t.size→f1 j=m j):=hf1
 have R1:Hid (PlAt w1 (w.heap.size+1) (fun _=>false)):=r1
 have R2:Hid (PlAt w1 (w.heap.size+1+1) (fun _=>false)):=r2
 obtain⟨x0,x1,x2,xz⟩:=(SpAt.gone2 g1 (by exact C1.out.alloc _) (by omega)).facts
 obtain⟨k0,k1,kz⟩:=r1.facts
 obtain⟨k2,k3,ky⟩:=r2.facts
 have z1:w.heap.size+1+1 < w1.heap.size:=lt_of_heap r2
 clear g1 l1 hf1 r1 r2
 unfold plV plCells
 go_wp2_with fail
 refine (mAdd_any _ f1 i _ (by exact R2.out.store) (by omega)).mono ?_
 rintro e w2 ⟨rfl,u2,p2⟩
 have us:Upd [w.heap.size+1+1] w1 w2:=Upd.trans (by (repeat (first|exact Upd.refl _ _|refine Upd.drewN ?_|refine Upd.drew ?_|refine Upd.setCell ?_ (by simp) _|refine Upd.alloc ?_ _))) u2
 have q1:PlAt w2 (w.heap.size+1) (fun _=>false):=R1.out.upd us (by simp)
 obtain⟨k0,k1,kz⟩:=q1.facts
 obtain⟨k2,k3,ky⟩:=p2.facts
 have HG:Hid (GotEnds w0 s t w (w.heap.size+1) (fun j=>m j || j == i) (fun x=>f1 x || x == i) w2):=⟨by omega,q1,G.out.hide us (by simp;omega),HL1.out.pl us R2.out p2 (by omega),fun j hj=>by rw [HF.out j hj]⟩
 clear u2 p2 q1 us
 go_wp2_with fail
 refine bodyPost_ret (v:=.agg #[.int .u64 (word (fun x=>f1 x || x == i) 0 64),.int .u64 (word (fun x=>f1 x || x == i) 64 64)]) (by simp [results,Tryz.results70,go_sem,k0,k1,kz]) rfl ?_
 exact HG.out.out hs
set_option maxRecDepth 4000 in
set_option maxHeartbeats 1600000 in
theorem mTurnsE_full (w0:World) (s n d i g cap q:Nat) (t:ByteArray)  (a:TN) (w:World) (h:Live w0 s t w) (hn:TnAt w0 n a) (hns:n < s) (hp:a.parts=.slice (some ⟨g,0,none⟩) 1 cap) (hg:g < s) (hc:w0.cell? ⟨g,0,none⟩=some (ptr q)) (hl:a.least≤d) (hm:(d:Int)=a.most) (hi:i < 127) :
  Calls Tryz.prog 70 #[ptr s,spotV ⟨n,d,i⟩] w (EndsOut w0 s t (fun j=>j == i) w):=by
 have hs:=h.lt
 have n0:n < w.heap.size:=by omega
 have n1:n < w.heap.size+1:=by omega
 have g0:g < w.heap.size:=by omega
 have g1:g < w.heap.size+1:=by omega
 obtain⟨c0,c1,c2,c3,c4,c5,c6,c7,c8,c9,c10,c11,fz⟩:=(h.tn hn hns).facts
 have cq:w.cell? ⟨g,0,none⟩=some (.pointer (some ⟨q,0,none⟩)):=h.cell hc hg
 rw [hp] at c2
 have HL:Hid (Live w0 s t w):=h
 have U:Hid (Upd [] w ((w.alloc (.cells #[.pointer (some ⟨n,0,none⟩),.int .i64 d,.int .i64 i] 140)).alloc (.cells #[.int .u64 0,.int .u64 0] 137))):=by show Upd _ _ _;(repeat (first|exact Upd.refl _ _|refine Upd.drewN ?_|refine Upd.drew ?_|refine Upd.setCell ?_ (by simp) _|refine Upd.alloc ?_ _))
 have P1:Hid (PlAt ((w.alloc (.cells #[.pointer (some ⟨n,0,none⟩),.int .i64 d,.int .i64 i] 140)).alloc (.cells #[.int .u64 0,.int .u64 0] 137)) (w.heap.size+1) (fun _=>false)):=plZ (heap_new (by simp))
 have C1:Hid (SpAt ((w.alloc (.cells #[.pointer (some ⟨n,0,none⟩),.int .i64 d,.int .i64 i] 140)).alloc (.cells #[.int .u64 0,.int .u64 0] 137)) w.heap.size ⟨n,d,i⟩):=(SpAt.new rfl).alloc _
 have HN:Hid (TnAt w0 n a):=hn
 have hnl:¬ (d:Int) < a.least:=by omega
 have hi2:(i:Int) < 128:=by omega
 clear h hn hc
 unfold spotV ptr
 go_enter Tryz.func70,Tryz.ntmps70
 go_wp2_with fail
 go_quiet (fail)
 go_wp2_with fail
 go_quiet (fail)
 go_wp2_with fail
 refine (mAdd_any _ (fun _=>false) i _ (PlAt.dr (plZ (heap_new (by simp)))) (by omega)).mono ?_
 rintro e w2 ⟨rfl,u2,p2⟩
 have q1:PlAt w2 (w.heap.size+1) (fun _=>false):=PlAt.upd (((PlAt.dr (plZ (heap_new (by simp)))).alloc _).dr) u2 (by simp)
 have hu:Upd [] w w2:=Upd.hide (by (repeat (first|exact Upd.refl _ _|refine Upd.drewN ?_|refine Upd.drew ?_|refine Upd.setCell ?_ (by simp) _|refine Upd.alloc ?_ _))) u2 (by omega)
 obtain⟨k0,k1,kz⟩:=q1.facts
 obtain⟨k2,k3,ky⟩:=p2.facts
 have HG:Hid (GotEnds w0 s t w (w.heap.size+1) (fun j=>j == i) (fun x=>x == i) w2):=GotEnds.mk2 hu hs (by omega) q1 (Gone.refl s w2) (HL.out.grow hu) (fun j hj=>rfl)
 clear u2 p2 q1 hu
 go_wp2_with fail
 refine bodyPost_ret (v:=.agg #[.int .u64 (word (fun x=>x == i) 0 64),.int .u64 (word (fun x=>x == i) 64 64)]) (by simp [results,Tryz.results70,go_sem,k0,k1,kz]) rfl ?_
 exact HG.out.out hs
structure ChInv (w0:World) (s:Nat) (t:ByteArray) (w:World) (C:Nat) (x:Spot) (ms:List (Nat→Nat→Bool)) (gn:Nat) (v:Value) (wr:World):Prop where
 st:∃ c:Nat,v=.int .i64 c∧c+gn=ms.length∧Live w0 s t wr∧Gone s w wr∧C+2 < wr.heap.size∧
  SpAt wr C x∧PlAt wr (C+1) (fun _=>false)∧∃ g,PlAt wr (C+2) g∧∀ j,j≤t.size→g j=(ms.take c).any fun m=>m x.f j
set_option maxRecDepth 4000 in
set_option maxHeartbeats 1600000 in
theorem mChoiceE_some (w0:World) (s n d i g cap:Nat) (qs:List Nat) (ks:List Tr) (t:ByteArray) (a:TN) (w:World) (h:Live w0 s t w) (hn:TnAt w0 n a) (hns:n < s) (hp:a.parts=.slice (some ⟨g,0,none⟩) qs.length cap) (hg:g < s) (hql:qs.length≤1000) (hk:qs.length=ks.length) (hc:∀ (k q:Nat),qs[k]?=some q→w0.cell? ⟨g,k,none⟩=some (ptr q))
  (h1:∀ (k q:Nat) (u:Tr),qs[k]?=some q→ks[k]?=some u→EndsC w0 s t q u 0 i) :
  Calls Tryz.prog 72 #[ptr s,spotV ⟨n,d,i⟩] w (EndsOut w0 s t (fun j=>(ks.map fun u=>(Sp.sem t u).m).any fun m=>m i j) w):=by
 have hs:=h.lt
 have n0:n < w.heap.size:=by omega
 have n1:n < w.heap.size+1:=by omega
 have n2:n < w.heap.size+1+1:=by omega
 obtain⟨c0,c1,c2,c3,c4,c5,c6,c7,c8,c9,c10,c11,fz⟩:=(h.tn hn hns).facts
 rw [hp,hk] at c2
 have HL:Hid (Live w0 s t w):=h
 have HN:Hid (TnAt w0 n a):=hn
 have HC:Hid (∀ (k q:Nat),qs[k]?=some q→w0.cell? ⟨g,k,none⟩=some (ptr q)):=hc
 have H1:Hid (∀ (k q:Nat) (u:Tr),qs[k]?=some q→ks[k]?=some u→EndsC w0 s t q u 0 i):=h1
 have hql':(ks.length:Int)≤1000:=by omega
 have HLEN:Hid (qs.length=ks.length):=hk
 have u:Upd [] w (((w.alloc (.cells #[.pointer (some ⟨n,0,none⟩),.int .i64 d,.int .i64 i] 140)).alloc (.cells #[.int .u64 0,.int .u64 0] 137)).alloc (.cells #[.int .u64 0,.int .u64 0] 137)):=by (repeat (first|exact Upd.refl _ _|refine Upd.drewN ?_|refine Upd.drew ?_|refine Upd.setCell ?_ (by simp) _|refine Upd.alloc ?_ _))
 have HI:Hid (ChInv w0 s t w w.heap.size ⟨n,d,i⟩ (ks.map fun u=>(Sp.sem t u).m) ks.length (.int .i64 0) (((w.alloc (.cells #[.pointer (some ⟨n,0,none⟩),.int .i64 d,.int .i64 i] 140)).alloc (.cells #[.int .u64 0,.int .u64 0] 137)).alloc (.cells #[.int .u64 0,.int .u64 0] 137))):=
  ⟨0,rfl,by simp,h.grow u,u.gone0,by simp,((SpAt.new rfl).alloc _).alloc _,(plZ (heap_new (by simp))).alloc _,fun _=>false,plZ (heap_new (by simp)),fun j hj=>by simp⟩
 clear h hn hc h1 u hk
 unfold spotV ptr
 go_enter Tryz.func72,Tryz.ntmps72
 go_wp2_with fail
 go_loopg [14] ks.length (fun gn v wr=>ChInv w0 s t w w.heap.size ⟨n,d,i⟩ (ks.map fun u=>(Sp.sem t u).m) gn v wr)
 case atStart=>exact HI.out
 case round=>
  obtain⟨c,rfl,hcl,lr,gr,y2,sr,pr,gf,er,hgf⟩:=hrel.st
  rw [List.length_map] at hcl
  obtain⟨e0,e1,e2,ez⟩:=sr.facts
  obtain⟨k0,k1,kz⟩:=pr.facts
  obtain⟨k2,k3,ky⟩:=er.facts
  have LR:Hid (Live w0 s t wr):=lr
  have GR:Hid (Gone s w wr):=gr
  have SR:Hid (SpAt wr w.heap.size ⟨n,d,i⟩):=sr
  have PR:Hid (PlAt wr (w.heap.size+1) (fun _=>false)):=pr
  have ER:Hid (PlAt wr (w.heap.size+2) gf):=er
  have HG:Hid (∀ j,j≤t.size→gf j=((ks.map fun u=>(Sp.sem t u).m).take c).any fun m=>m i j):=hgf
  by_cases hlt:c < ks.length
  ·obtain⟨q,hq⟩:∃ q,qs[c]?=some q:=⟨_,List.getElem?_eq_getElem (by have:=HLEN.out;omega)⟩
   obtain⟨u,hu⟩:∃ u,ks[c]?=some u:=⟨_,List.getElem?_eq_getElem hlt⟩
   have hcell:wr.cell? ⟨g,c,none⟩=some (.pointer (some ⟨q,0,none⟩)):=lr.cell (HC.out c q hq) hg
   have HE:Hid (EndsC w0 s t q u 0 i):=H1.out c q u hq hu
   have HT:Hid ((ks.map fun u=>(Sp.sem t u).m).take (c+1)=(ks.map fun u=>(Sp.sem t u).m).take c++[(Sp.sem t u).m]):=take_get (by simp [hu])
   obtain⟨gm,hgm⟩:∃ k,gk=k+1:=⟨gk - 1,by omega⟩
   have hlt':(c:Int) < ks.length:=by omega
   clear lr gr sr pr er hgf hq hu
   go_wp2_with fail
   refine (HE.out _ LR.out).mono ?_
   rintro e w4 ⟨f4,rfl,hf4,g4,l4⟩
   have L4:Hid (Live w0 s t w4):=l4
   have G4:Hid (Gone s wr w4):=g4
   have HF4:Hid (∀ j,j≤t.size→f4 j=Sp.spotM t u 0 i j):=hf4
   clear g4 l4 hf4
   go_wp2_with fail
   refine (mAddAll_any _ gf f4 _ (ER.out.gone G4.out (by omega))).mono ?_
   rintro e w5 ⟨rfl,u5,p5⟩
   have sz:=G4.out.size
   have sz5:=u5.size
   have RL:Hid (ChInv w0 s t w w.heap.size ⟨n,d,i⟩ (ks.map fun u=>(Sp.sem t u).m) gm (.int .i64 ((c+1:Nat):Int)) w5):=by
    refine⟨c+1,rfl,by rw [List.length_map];omega,L4.out.pl u5 (ER.out.gone G4.out (by omega)) p5 (by omega),(GR.out.trans G4.out).hide u5 (by simp),by omega,(SR.out.gone G4.out (by omega)).upd u5 (by simp),(PR.out.gone G4.out (by omega)).upd u5 (by simp),_,p5,fun j hj=>?_⟩
    show (gf j || f4 j)=_
    rw [HG.out j hj,HF4.out j hj,HT.out,List.any_append,Sp.spotM_zero]
    simp
   clear u5 p5
   go_wp2_with fail
   go_roundg gm
   case measure=>omega
   case rel=>exact RL.out
  ·have hlt':¬ (c:Int) < ks.length:=by omega
   have hlt2:¬ c < ks.length:=hlt
   clear lr gr sr pr er hgf
   go_wp2_with fail
   refine bodyPost_ret (v:=.agg #[.int .u64 (word gf 0 64),.int .u64 (word gf 64 64)]) (by simp [results,Tryz.results72,go_sem,k0,k1,kz]) rfl ?_
   have u9:Upd [w.heap.size+1] wr ((wr.setCell ⟨w.heap.size+1,0,none⟩ (.int .u64 (word gf 0 64))).setCell ⟨w.heap.size+1,1,none⟩ (.int .u64 (word gf 64 64))):=by (repeat (first|exact Upd.refl _ _|refine Upd.drewN ?_|refine Upd.drew ?_|refine Upd.setCell ?_ (by simp) _|refine Upd.alloc ?_ _))
   exact⟨gf,rfl,fun j hj=>by rw [HG.out j hj,List.take_of_length_le (by simp;omega)];simp only [List.any_map],GR.out.hide u9 (by simp),LR.out.pl u9 PR.out PR.out.store (by omega)⟩
end Go.Proofs.YtcpfpnjkfahjcaaGreat
