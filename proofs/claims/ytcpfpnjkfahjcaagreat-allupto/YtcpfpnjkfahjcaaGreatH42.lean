import Derived.Test.YtcpfpnjkfahjcaaGreatH41
import Derived.Test.YtcpfpnjkfahjcaaGreatH02
import Derived.Laws.IdiomStrings
set_option linter.unusedSimpArgs false
set_option linter.unusedVariables false
namespace Go.Proofs.YtcpfpnjkfahjcaaGreat
open Go.RowKit
theorem recCells {w:World} {k:Nat} {T:TypeId} {x:Array Value} (h:w.heap[k]?=some (.cells x T)):(∀ o,w.frozen? ⟨k,o,none⟩=false)∧∀ o,w.cell? ⟨k,o,none⟩=x[o]?:=by
 refine⟨fun o=>?_,fun o=>?_⟩
 ·rw [World.frozen?,h];rfl
 ·rw [World.cell?,h];rfl
theorem over1 (w2:World) (Z m:Nat) (K0:Int) (a:Option Addr):Upd [Z+1] w2 ((w2.setCell ⟨Z+1,3,none⟩ (.int .i64 K0)).setCell ⟨Z+1,4,none⟩ (.slice a m m)):=by (repeat (first|exact Upd.refl _ _|refine Upd.drewN ?_|refine Upd.drew ?_|refine Upd.setCell ?_ (by simp) _|refine Upd.alloc ?_ _))
theorem over2 {w3:World} {c p lim num from_ len g h cap:Nat} {L:List UInt8} (C:CuAt w3 c p lim num from_ len (.slice (some ⟨g,0,none⟩) h cap) L):CuAt ((((w3.setCell ⟨c,2,none⟩ (.int .i64 ((num:Int)+1))).setCell ⟨c,3,none⟩ (.int .i64 ((from_:Int)+((len:Int)+1)))).setCell ⟨c,4,none⟩ (.int .i64 0)).setCell ⟨c,5,none⟩ (.slice (some ⟨g,0,none⟩) 0 cap)) c p lim (num+1) (from_+len+1) 0 (.slice (some ⟨g,0,none⟩) 0 cap) []∧Upd [c] w3 ((((w3.setCell ⟨c,2,none⟩ (.int .i64 ((num:Int)+1))).setCell ⟨c,3,none⟩ (.int .i64 ((from_:Int)+((len:Int)+1)))).setCell ⟨c,4,none⟩ (.int .i64 0)).setCell ⟨c,5,none⟩ (.slice (some ⟨g,0,none⟩) 0 cap)):=by
 have u:Upd [c] w3 ((((w3.setCell ⟨c,2,none⟩ (.int .i64 ((num:Int)+1))).setCell ⟨c,3,none⟩ (.int .i64 ((from_:Int)+((len:Int)+1)))).setCell ⟨c,4,none⟩ (.int .i64 0)).setCell ⟨c,5,none⟩ (.slice (some ⟨g,0,none⟩) 0 cap)):=by (repeat (first|exact Upd.refl _ _|refine Upd.drewN ?_|refine Upd.drew ?_|refine Upd.setCell ?_ (by simp) _|refine Upd.alloc ?_ _))
 rcases C.held.2 with ⟨q,_⟩|⟨g',cap',cur,q,hb,hg,h1,h2,h3,h4⟩
 ·cases q
 ·injection q with q1 q2 q3
  injection q1 with q1
  injection q1 with q1 _ _
  subst q1 q3
  have hne:=notU8 hg C.cell
  refine⟨⟨?_,rfl,Or.inr ⟨g,cap,cur,rfl,hb,(u.block g (lt_of_heap hg) (by simpa using hne)).trans hg,Nat.zero_le _,h2,h3,by simp⟩⟩,u⟩
  rw [heap_set (heap_set (heap_set (heap_set C.cell _ _) _ _) _ _) _ _]
  have e1:((num+1:Nat):Int)=(num:Int)+1:=by omega
  have e2:((from_+len+1:Nat):Int)=(from_:Int)+((len:Int)+1):=by omega
  rw [e1,e2]
  rfl
theorem over3 (w4:World) (Z num from_ len m:Nat) (K0:Int) (a:Option Addr):Upd [Z] w4 (((((w4.setCell ⟨Z,0,none⟩ (.int .i64 num)).setCell ⟨Z,1,none⟩ (.int .i64 from_)).setCell ⟨Z,2,none⟩ (.int .i64 len)).setCell ⟨Z,3,none⟩ (.int .i64 K0)).setCell ⟨Z,4,none⟩ (.slice a m m)).drew:=
 Upd.drew (Upd.setCell (Upd.setCell (Upd.setCell (Upd.setCell (Upd.setCell (Upd.refl _ _) (by simp) _) (by simp) _) (by simp) _) (by simp) _) (by simp) _)
theorem drew_heap {w:World} {k:Nat} {o:Obj} (h:w.heap[k]?=some o):w.drew.heap[k]?=some o:=h
theorem over4 {w4:World} {Z num from_ len m:Nat} {K0:Int} {a:Option Addr} (h:w4.heap[Z]?=some (.cells #[.int .i64 0,.int .i64 0,.int .i64 0,.int .i64 0,.slice none 0 0] 94)):((((((w4.setCell ⟨Z,0,none⟩ (.int .i64 num)).setCell ⟨Z,1,none⟩ (.int .i64 from_)).setCell ⟨Z,2,none⟩ (.int .i64 len)).setCell ⟨Z,3,none⟩ (.int .i64 K0)).setCell ⟨Z,4,none⟩ (.slice a m m)).drew).heap[Z]?=some (.cells #[.int .i64 num,.int .i64 from_,.int .i64 len,.int .i64 K0,.slice a m m] 94):=by
 have e:(((((w4.setCell ⟨Z,0,none⟩ (.int .i64 num)).setCell ⟨Z,1,none⟩ (.int .i64 from_)).setCell ⟨Z,2,none⟩ (.int .i64 len)).setCell ⟨Z,3,none⟩ (.int .i64 K0)).setCell ⟨Z,4,none⟩ (.slice a m m)).heap[Z]?=some (.cells #[.int .i64 num,.int .i64 from_,.int .i64 len,.int .i64 K0,.slice a m m] 94):=by
  rw [heap_set (heap_set (heap_set (heap_set (heap_set h _ _) _ _) _ _) _ _) _ _]
  rfl
 exact drew_heap e
theorem RecSp.upd {w w':World} {a:Option Addr} {m n b:Nat} {r:Option (Nat→Int×Int)} {l:List Nat} (h:RecSp w a m n r) (u:Upd l w w') (hq:∀ q o s,a=some ⟨q,o,s⟩→b≤q) (hl:∀ k,k∈l→k < b):RecSp w' a m n r:=by
 cases r with
 | none=>exact h
 | some f=>
  obtain⟨q,e1,e2,e3⟩:=h
  have:=hq q 0 none e1
  exact⟨q,e1,e2,(u.block q (lt_of_heap e3) (fun k=>by have:=hl q k;omega)).trans e3⟩
theorem overEnd {w w1 w2:World} {c p lim num from_ len g h cap Z n m:Nat} {a:Option Addr} {L:List UInt8} {K0:Int} {r:Option (Nat→Int×Int)} (hZ:w.heap.size=Z) (hc:c < Z) (U1:Upd [] w w1) (h1:Z+1 < w1.heap.size) (U2:Upd [] w1 w2) (C:CuAt w2 c p lim num from_ len (.slice (some ⟨g,0,none⟩) h cap) L) (hg:g < Z) (hs:RecSp w2 a m n r) (hq:∀ q o s,a=some ⟨q,o,s⟩→w1.heap.size≤q) (r0:w2.heap[Z]?=some (.cells #[.int .i64 0,.int .i64 0,.int .i64 0,.int .i64 0,.slice none 0 0] 94)) :
  RecSp ((((((((((((w2.setCell ⟨Z+1,3,none⟩ (.int .i64 K0)).setCell ⟨Z+1,4,none⟩ (.slice a m m)).setCell ⟨c,2,none⟩ (.int .i64 ((num:Int)+1))).setCell ⟨c,3,none⟩ (.int .i64 ((from_:Int)+((len:Int)+1)))).setCell ⟨c,4,none⟩ (.int .i64 0)).setCell ⟨c,5,none⟩ (.slice (some ⟨g,0,none⟩) 0 cap)).setCell ⟨Z,0,none⟩ (.int .i64 num)).setCell ⟨Z,1,none⟩ (.int .i64 from_)).setCell ⟨Z,2,none⟩ (.int .i64 len)).setCell ⟨Z,3,none⟩ (.int .i64 K0)).setCell ⟨Z,4,none⟩ (.slice a m m)).drew) a m n r∧(∀ q o s,a=some ⟨q,o,s⟩→Z≤q)∧CuAt ((((((((((((w2.setCell ⟨Z+1,3,none⟩ (.int .i64 K0)).setCell ⟨Z+1,4,none⟩ (.slice a m m)).setCell ⟨c,2,none⟩ (.int .i64 ((num:Int)+1))).setCell ⟨c,3,none⟩ (.int .i64 ((from_:Int)+((len:Int)+1)))).setCell ⟨c,4,none⟩ (.int .i64 0)).setCell ⟨c,5,none⟩ (.slice (some ⟨g,0,none⟩) 0 cap)).setCell ⟨Z,0,none⟩ (.int .i64 num)).setCell ⟨Z,1,none⟩ (.int .i64 from_)).setCell ⟨Z,2,none⟩ (.int .i64 len)).setCell ⟨Z,3,none⟩ (.int .i64 K0)).setCell ⟨Z,4,none⟩ (.slice a m m)).drew) c p lim (num+1) (from_+len+1) 0 (.slice (some ⟨g,0,none⟩) 0 cap) []∧Upd [c] w ((((((((((((w2.setCell ⟨Z+1,3,none⟩ (.int .i64 K0)).setCell ⟨Z+1,4,none⟩ (.slice a m m)).setCell ⟨c,2,none⟩ (.int .i64 ((num:Int)+1))).setCell ⟨c,3,none⟩ (.int .i64 ((from_:Int)+((len:Int)+1)))).setCell ⟨c,4,none⟩ (.int .i64 0)).setCell ⟨c,5,none⟩ (.slice (some ⟨g,0,none⟩) 0 cap)).setCell ⟨Z,0,none⟩ (.int .i64 num)).setCell ⟨Z,1,none⟩ (.int .i64 from_)).setCell ⟨Z,2,none⟩ (.int .i64 len)).setCell ⟨Z,3,none⟩ (.int .i64 K0)).setCell ⟨Z,4,none⟩ (.slice a m m)).drew)∧((((((((((((w2.setCell ⟨Z+1,3,none⟩ (.int .i64 K0)).setCell ⟨Z+1,4,none⟩ (.slice a m m)).setCell ⟨c,2,none⟩ (.int .i64 ((num:Int)+1))).setCell ⟨c,3,none⟩ (.int .i64 ((from_:Int)+((len:Int)+1)))).setCell ⟨c,4,none⟩ (.int .i64 0)).setCell ⟨c,5,none⟩ (.slice (some ⟨g,0,none⟩) 0 cap)).setCell ⟨Z,0,none⟩ (.int .i64 num)).setCell ⟨Z,1,none⟩ (.int .i64 from_)).setCell ⟨Z,2,none⟩ (.int .i64 len)).setCell ⟨Z,3,none⟩ (.int .i64 K0)).setCell ⟨Z,4,none⟩ (.slice a m m)).drew).heap[Z]?=some (.cells #[.int .i64 num,.int .i64 from_,.int .i64 len,.int .i64 K0,.slice a m m] 94):=by
 have hsz:=U1.size
 have hsz2:=U2.size
 have v1:=over1 w2 Z m K0 a
 revert v1
 generalize ((w2.setCell ⟨Z+1,3,none⟩ (.int .i64 K0)).setCell ⟨Z+1,4,none⟩ (.slice a m m))=w3
 intro v1
 have C3:CuAt w3 c p lim num from_ len (.slice (some ⟨g,0,none⟩) h cap) L:=C.blocks (v1.block c (lt_of_heap C.cell) (by simp;omega)) (fun k hk=>v1.block k (ownBlock_lt C.held hk).1 (by simp [Value.ownBlock] at hk ⊢;omega))
 obtain⟨C4,v2⟩:=over2 C3
 revert C4 v2
 generalize ((((w3.setCell ⟨c,2,none⟩ (.int .i64 ((num:Int)+1))).setCell ⟨c,3,none⟩ (.int .i64 ((from_:Int)+((len:Int)+1)))).setCell ⟨c,4,none⟩ (.int .i64 0)).setCell ⟨c,5,none⟩ (.slice (some ⟨g,0,none⟩) 0 cap))=w4
 intro C4 v2
 have v3:=over3 w4 Z num from_ len m K0 a
 have r4:=over4 (num:=num) (from_:=from_) (len:=len) (m:=m) (K0:=K0) (a:=a) ((v2.block Z (Nat.lt_of_lt_of_le (by omega) v1.size) (by simp;omega)).trans ((v1.block Z (by omega) (by simp)).trans r0))
 revert v3 r4
 generalize (((((w4.setCell ⟨Z,0,none⟩ (.int .i64 num)).setCell ⟨Z,1,none⟩ (.int .i64 from_)).setCell ⟨Z,2,none⟩ (.int .i64 len)).setCell ⟨Z,3,none⟩ (.int .i64 K0)).setCell ⟨Z,4,none⟩ (.slice a m m)).drew=w5
 intro v3 r4
 have v:Upd [c,Z,Z+1] w2 w5:=((v1.mono (by simp)).trans (v2.mono (by simp))).trans (v3.mono (by simp))
 refine⟨hs.upd v hq (by simp;omega),fun q o s e=>by have:=hq q o s e;omega,C4.blocks (v3.block c (lt_of_heap C4.cell) (by simp;omega)) (fun k hk=>v3.block k (ownBlock_lt C4.held hk).1 (by simp [Value.ownBlock] at hk ⊢;omega)),?_⟩
 have uu:Upd [c,Z,Z+1] w w5:=((U1.trans U2).mono (by simp):Upd [c,Z,Z+1] w w2).trans v
 exact⟨⟨uu.os,uu.tape,uu.output,uu.size,fun k hk hn=>uu.block k hk (by simp at hn ⊢;omega)⟩,r4⟩
set_option maxRecDepth 8000 in
set_option maxHeartbeats 1600000 in
theorem cuOver_any (c p lim num from_ len g h cap:Nat) (L:List UInt8) (t:Tr) (n:Nat) (w:World) (hl:lim≤100) (hL:L.length≤lim) (hnum:num≤3000000) (hfr:from_≤3000000) (hlen:len≤3000000) (C:CuAt w c p lim num from_ len (.slice (some ⟨g,0,none⟩) h cap) L) (P:PatAt w p t n):Calls Tryz.prog 81 #[.pointer (some ⟨c,0,none⟩)] w fun e w'=>∃ a m,e=.returned (.agg #[.int .i64 num,.int .i64 from_,.int .i64 len,.int .i64 (apartS t lim from_ len L).1,.slice a m m])∧RecSp w' a m (n+1) (apartS t lim from_ len L).2∧(∀ q o s,a=some ⟨q,o,s⟩→w.heap.size≤q)∧CuAt w' c p lim (num+1) (from_+len+1) 0 (.slice (some ⟨g,0,none⟩) 0 cap) []∧Upd [c] w w':=by
 have HC:Hid (CuAt w c p lim num from_ len (.slice (some ⟨g,0,none⟩) h cap) L):=C
 have HP:Hid (PatAt w p t n):=P
 have hc:c < w.heap.size:=lt_of_heap C.cell
 have c2:w.cell? ⟨c,2,none⟩=some (.int .i64 num):=by rw [World.cell?,C.cell];rfl
 have c3:w.cell? ⟨c,3,none⟩=some (.int .i64 from_):=by rw [World.cell?,C.cell];rfl
 have c4:w.cell? ⟨c,4,none⟩=some (.int .i64 len):=by rw [World.cell?,C.cell];rfl
 clear C P
 go_enter Tryz.func81,Tryz.ntmps81
 go_wp2_with fail
 go_region
 go_wp2_with fail
 have U1:Hid (Upd [] w ((w.alloc (.cells #[.int .i64 0,.int .i64 0,.int .i64 0,.int .i64 0,.slice none 0 0] 94)).alloc (.cells #[.int .i64 num,.int .i64 from_,.int .i64 len,.int .i64 0,.slice none 0 0] 94)).drew):=by (repeat (first|exact Upd.refl _ _|refine Upd.drewN ?_|refine Upd.drew ?_|refine Upd.setCell ?_ (by simp) _|refine Upd.alloc ?_ _))
 have R1:Hid (((w.alloc (.cells #[.int .i64 0,.int .i64 0,.int .i64 0,.int .i64 0,.slice none 0 0] 94)).alloc (.cells #[.int .i64 num,.int .i64 from_,.int .i64 len,.int .i64 0,.slice none 0 0] 94)).drew.heap[w.heap.size+1]?=some (.cells #[.int .i64 num,.int .i64 from_,.int .i64 len,.int .i64 0,.slice none 0 0] 94)):=heap_new (w:=w.alloc (.cells #[.int .i64 0,.int .i64 0,.int .i64 0,.int .i64 0,.slice none 0 0] 94)) (by show w.heap.size+1=(w.heap.push _).size;simp)
 have R0:Hid (((w.alloc (.cells #[.int .i64 0,.int .i64 0,.int .i64 0,.int .i64 0,.slice none 0 0] 94)).alloc (.cells #[.int .i64 num,.int .i64 from_,.int .i64 len,.int .i64 0,.slice none 0 0] 94)).drew.heap[w.heap.size]?=some (.cells #[.int .i64 0,.int .i64 0,.int .i64 0,.int .i64 0,.slice none 0 0] 94)):=(Below.heap_alloc (w.alloc (.cells #[.int .i64 0,.int .i64 0,.int .i64 0,.int .i64 0,.slice none 0 0] 94)) _ _ (by show w.heap.size < (w.heap.push _).size;simp)).trans (heap_new rfl)
 have C1:Hid (CuAt ((w.alloc (.cells #[.int .i64 0,.int .i64 0,.int .i64 0,.int .i64 0,.slice none 0 0] 94)).alloc (.cells #[.int .i64 num,.int .i64 from_,.int .i64 len,.int .i64 0,.slice none 0 0] 94)).drew c p lim num from_ len (.slice (some ⟨g,0,none⟩) h cap) L):=HC.out.blocks (U1.out.block c hc (by simp)) (fun k hk=>U1.out.block k (ownBlock_lt HC.out.held hk).1 (by simp))
 refine (cuApart_any c p lim num from_ len g h cap L t n _ hl hL hlen hfr C1.out (HP.out.upd U1.out)).mono ?_
 revert U1 R1 R0 C1
 generalize ((w.alloc (.cells #[.int .i64 0,.int .i64 0,.int .i64 0,.int .i64 0,.slice none 0 0] 94)).alloc (.cells #[.int .i64 num,.int .i64 from_,.int .i64 len,.int .i64 0,.slice none 0 0] 94)).drew=w1
 intro U1 R1 R0 C1
 rintro e w2 ⟨a,m,rfl,hs,hq,u2⟩
 have HS:Hid (RecSp w2 a m (n+1) (apartS t lim from_ len L).2):=hs
 have HQ:Hid (∀ q o s,a=some ⟨q,o,s⟩→w1.heap.size≤q):=hq
 have U2:Hid (Upd [] w1 w2):=u2
 have C2:Hid (CuAt w2 c p lim num from_ len (.slice (some ⟨g,0,none⟩) h cap) L):=C1.out.blocks (u2.block c (lt_of_heap C1.out.cell) (by simp)) (fun k hk=>u2.block k (ownBlock_lt C1.out.held hk).1 (by simp))
 have r0:=(u2.block _ (lt_of_heap R0.out) (by simp)).trans R0.out
 have r1:=(u2.block _ (lt_of_heap R1.out) (by simp)).trans R1.out
 obtain⟨fr0,x0⟩:=recCells r0
 obtain⟨fr1,x1⟩:=recCells r1
 obtain⟨frc,xc⟩:=recCells C2.out.cell
 have y10:w2.cell? ⟨w.heap.size+1,0,none⟩=some (.int .i64 num):=x1 0
 have y11:w2.cell? ⟨w.heap.size+1,1,none⟩=some (.int .i64 from_):=x1 1
 have y12:w2.cell? ⟨w.heap.size+1,2,none⟩=some (.int .i64 len):=x1 2
 have y13:w2.cell? ⟨w.heap.size+1,3,none⟩=some (.int .i64 0):=x1 3
 have y14:w2.cell? ⟨w.heap.size+1,4,none⟩=some (.slice none 0 0):=x1 4
 have y00:w2.cell? ⟨w.heap.size,0,none⟩=some (.int .i64 0):=x0 0
 have y01:w2.cell? ⟨w.heap.size,1,none⟩=some (.int .i64 0):=x0 1
 have y02:w2.cell? ⟨w.heap.size,2,none⟩=some (.int .i64 0):=x0 2
 have y03:w2.cell? ⟨w.heap.size,3,none⟩=some (.int .i64 0):=x0 3
 have y04:w2.cell? ⟨w.heap.size,4,none⟩=some (.slice none 0 0):=x0 4
 have z2:w2.cell? ⟨c,2,none⟩=some (.int .i64 num):=xc 2
 have z3:w2.cell? ⟨c,3,none⟩=some (.int .i64 from_):=xc 3
 have z4:w2.cell? ⟨c,4,none⟩=some (.int .i64 len):=xc 4
 have z5:w2.cell? ⟨c,5,none⟩=some (.slice (some ⟨g,0,none⟩) h cap):=xc 5
 have n0:c≠w.heap.size:=by omega
 have n1:c≠w.heap.size+1:=by omega
 generalize hZ:w.heap.size=Z at *
 generalize hK0:(apartS t lim from_ len L).1=K0 at *
 have HK0:Hid ((apartS t lim from_ len L).1=K0):=hK0
 clear hK0
 clear hs hq u2 r0 r1 x0 x1 xc
 go_wp2_with fail
 go_region
 all_goals go_wp2_with fail
 have E:=overEnd (num:=num) (from_:=from_) (len:=len) (K0:=K0) hZ (by omega) U1.out (lt_of_heap R1.out) U2.out C2.out (by have:=(ownBlock_lt HC.out.held (g:=g) rfl).1;omega) HS.out HQ.out ((U2.out.block Z (by have:=lt_of_heap R1.out;omega) (by simp)).trans R0.out)
 revert E
 generalize (((((((((((w2.setCell ⟨Z+1,3,none⟩ (.int .i64 K0)).setCell ⟨Z+1,4,none⟩ (.slice a m m)).setCell ⟨c,2,none⟩ (.int .i64 ((num:Int)+1))).setCell ⟨c,3,none⟩ (.int .i64 ((from_:Int)+((len:Int)+1)))).setCell ⟨c,4,none⟩ (.int .i64 0)).setCell ⟨c,5,none⟩ (.slice (some ⟨g,0,none⟩) 0 cap)).setCell ⟨Z,0,none⟩ (.int .i64 num)).setCell ⟨Z,1,none⟩ (.int .i64 from_)).setCell ⟨Z,2,none⟩ (.int .i64 len)).setCell ⟨Z,3,none⟩ (.int .i64 K0)).setCell ⟨Z,4,none⟩ (.slice a m m)).drew=w5
 rintro ⟨E1,E2,E3,E4,E5⟩
 have q0:w5.cell? ⟨Z,0,none⟩=some (.int .i64 num):=by rw [World.cell?,E5];rfl
 have q1:w5.cell? ⟨Z,1,none⟩=some (.int .i64 from_):=by rw [World.cell?,E5];rfl
 have q2:w5.cell? ⟨Z,2,none⟩=some (.int .i64 len):=by rw [World.cell?,E5];rfl
 have q3:w5.cell? ⟨Z,3,none⟩=some (.int .i64 K0):=by rw [World.cell?,E5];rfl
 have q4:w5.cell? ⟨Z,4,none⟩=some (.slice a m m):=by rw [World.cell?,E5];rfl
 refine bodyPost_ret (v:=.agg #[.int .i64 num,.int .i64 from_,.int .i64 len,.int .i64 K0,.slice a m m]) (by simp [results,Tryz.results81,go_sem,q0,q1,q2,q3,q4]) rfl ?_
 exact⟨a,m,by rw [HK0.out],E1,by rw [hZ];exact E2,E3,E4⟩
def recV (r:Sp.Rec) (a:Option Addr) (m:Nat):List Value:=[.int .i64 r.num,.int .i64 r.frm,.int .i64 r.len,.int .i64 r.code,.slice a m m]
def RecsL (w:World) (n hi:Nat):Nat→List Sp.Rec→List Value→Prop
 | lo,[],xs=>xs=[]∧lo≤hi
 | lo,r::rs,xs=>∃ a m ys l2,xs=recV r a m++ys∧RecSp w a m n r.sp∧(lo≤l2∧∀ q o s,a=some ⟨q,o,s⟩→lo≤q∧q < l2)∧RecsL w n hi l2 rs ys
theorem RecsL.le {w:World} {n hi:Nat}:∀ {lo:Nat} {rs:List Sp.Rec} {xs:List Value},RecsL w n hi lo rs xs→lo≤hi
 | lo,[],xs,h=>h.2
 | lo,r::rs,xs,h=>by
  obtain⟨a,m,zs,l2,e,h1,h3,h2⟩:=h
  have:=h2.le;omega
theorem RecsL.low {w:World} {n hi lo l0:Nat} (hl:l0≤lo):∀ {rs:List Sp.Rec} {xs:List Value},RecsL w n hi lo rs xs→RecsL w n hi l0 rs xs
 | [],xs,h=>⟨h.1,Nat.le_trans hl h.2⟩
 | r::rs,xs,h=>by
  obtain⟨a,m,zs,l2,e,h1,h3,h2⟩:=h
  exact⟨a,m,zs,l2,e,h1,⟨Nat.le_trans hl h3.1,fun q o s hq=>⟨Nat.le_trans hl (h3.2 q o s hq).1,(h3.2 q o s hq).2⟩⟩,h2⟩
theorem RecsL.append {w:World} {n mid hi:Nat}:∀ {lo:Nat} {rs rs':List Sp.Rec} {xs ys:List Value},RecsL w n mid lo rs xs→RecsL w n hi mid rs' ys→RecsL w n hi lo (rs++rs') (xs++ys)
 | lo,[],rs',xs,ys,h,k=>by rw [h.1];exact RecsL.low h.2 k
 | lo,r::rs,rs',xs,ys,h,k=>by
  obtain⟨a,m,zs,l2,e,h1,h3,h2⟩:=h
  exact⟨a,m,zs++ys,l2,by rw [e,List.append_assoc],h1,h3,h2.append k⟩
theorem RecsL.one {w:World} {n m lo:Nat} {r:Sp.Rec} {a:Option Addr} (h:RecSp w a m n r.sp) (hlo:lo≤w.heap.size) (hq:∀ q o s,a=some ⟨q,o,s⟩→lo≤q):RecsL w n w.heap.size lo [r] (recV r a m):=by
 refine⟨a,m,[],w.heap.size,by simp,h,⟨hlo,fun q o s e=>⟨hq q o s e,?_⟩⟩,rfl,Nat.le_refl _⟩
 revert h
 cases r.sp with
 | none=>intro h;rw [h.1] at e;cases e
 | some f=>rintro ⟨q',e1,e2,e3⟩;rw [e1] at e;cases e;exact lt_of_heap e3
def NotSp (w:World) (k:Nat):Prop:=∀ a,w.heap[k]?≠some (.cells a 66 (0,0))
theorem RecSp.keep {w w':World} {a:Option Addr} {m n:Nat} {r:Option (Nat→Int×Int)} {l:List Nat} (h:RecSp w a m n r) (u:Upd l w w') (hl:∀ k,k∈l→NotSp w k):RecSp w' a m n r:=by
 cases r with
 | none=>exact h
 | some f=>
  obtain⟨q,e1,e2,e3⟩:=h
  exact⟨q,e1,e2,(u.block q (lt_of_heap e3) (fun k=>hl q k _ e3)).trans e3⟩
theorem RecsL.keep {w w':World} {n hi:Nat} {l:List Nat} (u:Upd l w w') (hl:∀ k,k∈l→NotSp w k):∀ {lo:Nat} {rs:List Sp.Rec} {xs:List Value},RecsL w n hi lo rs xs→RecsL w' n hi lo rs xs
 | lo,[],xs,h=>h
 | lo,r::rs,xs,h=>by
  obtain⟨a,m,ys,l2,e,h1,h3,h2⟩:=h
  exact⟨a,m,ys,l2,e,h1.keep u hl,h3,h2.keep u hl⟩
structure RecsAt (w:World) (b:Nat) (v:Value) (n:Nat) (rs:List Sp.Rec):Prop where
 ex:∃ xs hi,w.ownsRow b 94 5 v rs.length xs∧RecsL w n hi b rs xs∧hi≤w.heap.size
theorem RecsAt.nil (w:World) (b n:Nat) (hb:b≤w.heap.size):RecsAt w b (.slice none 0 0) n []:=⟨[],w.heap.size,⟨rfl,Or.inl ⟨rfl,rfl⟩⟩,⟨rfl,hb⟩,Nat.le_refl _⟩
theorem RecsAt.keep {w w':World} {b n:Nat} {v:Value} {rs:List Sp.Rec} (h:RecsAt w b v n rs) {l:List Nat} (u:Upd l w w') (hl:∀ k,k∈l→NotSp w k) (hv:∀ k,v.ownBlock=some k→k∉l):RecsAt w' b v n rs:=by
 obtain⟨xs,hi,h1,h2,h3⟩:=h.ex
 exact⟨xs,hi,ownsRow_same h1 (fun k hk hlt=>u.block k hlt (hv k hk)),h2.keep u hl,Nat.le_trans h3 u.size⟩
theorem RecsAt.upd {w w':World} {b n:Nat} {v:Value} {rs:List Sp.Rec} (h:RecsAt w b v n rs) (u:Upd [] w w'):RecsAt w' b v n rs:=h.keep u (by simp) (by simp)
theorem RecsAt.mono {w:World} {b b' n:Nat} {v:Value} {rs:List Sp.Rec} (h:RecsAt w b v n rs) (hb:b'≤b):RecsAt w b' v n rs:=by
 obtain⟨xs,hi,⟨h1,h2⟩,h3,h4⟩:=h.ex
 refine⟨xs,hi,⟨h1,?_⟩,h3.low hb,h4⟩
 rcases h2 with q|⟨g,cap,cur,e1,e2,e3⟩
 ·exact Or.inl q
 ·exact Or.inr ⟨g,cap,cur,e1,Nat.le_trans hb e2,e3⟩
def TyIs (w:World) (k:Nat) (T:TypeId):Prop:=∃ a,w.heap[k]?=some (.cells a T (0,0))
theorem TyIs.ne {w:World} {k q:Nat} {T U:TypeId} (h:TyIs w k T) (h':TyIs w q U) (hT:T≠U):k≠q:=by
 rintro rfl
 obtain⟨a,ha⟩:=h
 obtain⟨b,hb⟩:=h'
 rw [ha] at hb
 injection hb with hb
 injection hb with _ hb _
 exact hT hb
theorem TyIs.notSp {w:World} {k:Nat} {T:TypeId} (h:TyIs w k T) (hT:T≠66):NotSp w k:=fun a ha=>TyIs.ne h ⟨a,ha⟩ hT rfl
theorem CuAt.ty {w:World} {c p lim num from_ len:Nat} {v:Value} {L:List UInt8} (h:CuAt w c p lim num from_ len v L):TyIs w c 147:=⟨_,h.cell⟩
theorem CuAt.tyg {w:World} {c p lim num from_ len g h cap:Nat} {L:List UInt8} (C:CuAt w c p lim num from_ len (.slice (some ⟨g,0,none⟩) h cap) L):TyIs w g 5:=by
 rcases C.held.2 with ⟨q,_⟩|⟨g',cap',cur,q,_,hg,_⟩
 ·cases q
 ·cases q;exact⟨_,hg⟩
theorem RecsAt.ty {w:World} {b n:Nat} {v:Value} {rs:List Sp.Rec} (h:RecsAt w b v n rs) {k:Nat} (hk:v.ownBlock=some k):TyIs w k 94:=by
 obtain⟨xs,hi,⟨_,h2⟩,_⟩:=h.ex
 rcases h2 with ⟨q,_⟩|⟨g,cap,cur,rfl,_,e3,_⟩
 ·subst q;cases hk
 ·simp [Value.ownBlock] at hk;subst hk;exact⟨_,e3⟩
theorem RecsAt.form {w:World} {b n:Nat} {v:Value} {rs:List Sp.Rec} (h:RecsAt w b v n rs):(v=.slice none 0 0∧rs=[])∨∃ g cap,v=.slice (some ⟨g,0,none⟩) rs.length cap∧b≤g∧g < w.heap.size∧rs.length≤cap:=by
 obtain⟨xs,hi,⟨_,h2⟩,_⟩:=h.ex
 rcases h2 with ⟨q,q'⟩|⟨g,cap,cur,rfl,e2,e3,e4,_⟩
 ·exact Or.inl ⟨q,List.eq_nil_of_length_eq_zero q'⟩
 ·exact Or.inr ⟨g,cap,rfl,e2,lt_of_heap e3,e4⟩
theorem pInfoRec:∃ i,Tryz.prog.info? 94=some i∧i.zero=some (.agg #[.int .i64 0,.int .i64 0,.int .i64 0,.int .i64 0,.slice none 0 0])∧i.size=5∧i.bytes=56:=by
 have h:(Tryz.prog.info? 94).map (fun i=>(i.zero,i.size,i.bytes))=some (some (.agg #[.int .i64 0,.int .i64 0,.int .i64 0,.int .i64 0,.slice none 0 0]),5,56):=by kernel_rfl
 cases hi:Tryz.prog.info? 94 with
 | none=>rw [hi] at h;cases h
 | some i=>
  rw [hi] at h
  simp only [Option.map_some,Option.some.injEq,Prod.mk.injEq] at h
  exact⟨i,rfl,h.1,h.2.1,h.2.2⟩
theorem cells_five (w:World) (a b c d e:Value):∀ (j:Nat) (u:Value),([a,b,c,d,e]:List Value)[j]?=some u→(w.alloc (.cells #[a,b,c,d,e] 94)).cell? ((⟨w.heap.size,0,none⟩:Addr).add j)=some u:=by
 intro j u h
 have hb:(w.alloc (.cells #[a,b,c,d,e] 94)).heap[w.heap.size]?=some (.cells #[a,b,c,d,e] 94 (0,0)):=heap_new rfl
 have e0:(⟨w.heap.size,0,none⟩:Addr).add j=⟨w.heap.size,j,none⟩:=by simp [Addr.add];omega
 rw [e0,World.cell?,hb]
 show (#[a,b,c,d,e]:Array Value)[j]?=some u
 rw [← Array.getElem?_toList]
 exact h
theorem grown_ups {w wr w':World} {b n:Nat} {v:Value} {T:TypeId} {z:Nat} {xs:List Value} {l:List Nat} (hb:w.heap.size≤b) (u:Upd l w wr) (h:wr.ownsRow b T z v n xs) (g:wr.grownBy w' v.ownBlock):Upd l w w':=by
 have k:=Upd.of_grown g
 exact⟨k.os.trans u.os,k.tape.trans u.tape,k.output.trans u.output,Nat.le_trans u.size k.size,fun i hi hn=>(k.block i (Nat.lt_of_lt_of_le hi u.size) (fun q=>by
  have e:v.ownBlock=some i:=by simpa using q
  have:=(ownBlock_lt h e).2;omega)).trans (u.block i hi hn)⟩
theorem RecsAt.slice {w:World} {b n:Nat} {v:Value} {rs:List Sp.Rec} (h:RecsAt w b v n rs):∃ a c,v=.slice a rs.length c∧rs.length≤c:=by
 rcases h.form with ⟨rfl,rfl⟩|⟨g,cap,rfl,_,_,h2⟩
 ·exact⟨none,0,rfl,by simp⟩
 ·exact⟨_,cap,rfl,h2⟩
def CuSt (w:World) (c p lim g h cap:Nat) (cu:Sp.Cu):Prop:=CuAt w c p lim cu.num cu.frm cu.len (.slice (some ⟨g,0,none⟩) h cap) cu.held
structure FeedOut (w:World) (c p lim g0:Nat) (t:Tr) (n:Nat) (cu0:Sp.Cu) (K0:List UInt8) (v:Value) (w':World):Prop where
 recs:RecsAt w' w.heap.size v (n+1) (Sp.feedR (apartS t lim) lim cu0 K0)
 cut:∃ g h cap,(g=g0∨w.heap.size≤g)∧CuSt w' c p lim g h cap (Sp.feedC lim cu0 K0)
 upd:Upd [c,g0] w w'
structure FdInv (w:World) (c p lim g0:Nat) (t:Tr) (n blk:Nat) (cu0:Sp.Cu) (K0:List UInt8) (gn:Nat) (vb vr:Value) (wr:World):Prop where
 st:∃ (cu:Sp.Cu) (K:List UInt8) (rs:List Sp.Rec) (off cp g h cap:Nat),vb=.slice (some ⟨blk,off,none⟩) K.length cp∧K.length≤cp∧K.length=gn∧BytesAt wr blk off K∧CuSt wr c p lim g h cap cu∧cu.fit lim∧RecsAt wr w.heap.size vr (n+1) rs∧rs++Sp.feedR (apartS t lim) lim cu K=Sp.feedR (apartS t lim) lim cu0 K0∧Sp.feedC lim cu K=Sp.feedC lim cu0 K0∧(g=g0∨w.heap.size≤g)∧Upd [c,g0] w wr∧cu.num+K.length≤2200000∧cu.frm+cu.len+K.length≤2200000∧rs.length+K.length≤2200000∧K.length≤1050000
theorem BytesAt.keep {w w':World} {b off:Nat} {K:List UInt8} {l:List Nat} (h:BytesAt w b off K) (u:Upd l w w') (hb:b < w.heap.size) (hl:b∉l):BytesAt w' b off K:=fun j x hx=>(cell_eq (u.block b hb hl) _).trans (h j x hx)
theorem BytesAt.pre {w:World} {b off:Nat} {A M:List UInt8} (h:BytesAt w b off (A++M)):BytesAt w b off A:=fun j x hx=>h j x (by
 have hj:=(List.getElem?_eq_some_iff.mp hx).1
 rw [List.getElem?_append_left hj];exact hx)
theorem BytesAt.post {w:World} {b off:Nat} {A M:List UInt8} (h:BytesAt w b off (A++M)):BytesAt w b (off+A.length) M:=fun j x hx=>by
 have:=h (A.length+j) x (by rw [List.getElem?_append_right (by omega)];simpa using hx)
 rw [← Nat.add_assoc] at this
 exact this
theorem CuSt.len {w:World} {c p lim g h cap:Nat} {cu:Sp.Cu} (C:CuSt w c p lim g h cap cu) (hf:cu.fit lim):h≤lim∧cu.held.length=h:=by
 have:=(CuAt.len C).1
 have h2:cu.held.length=min cu.len lim:=hf
 omega
theorem Upd.gs {w wr w2:World} {c g g0:Nat} (u:Upd [c,g0] w wr) (u2:Upd [c,g] wr w2) (hg:g=g0∨w.heap.size≤g):Upd [c,g0] w w2:=
 ⟨u2.os.trans u.os,u2.tape.trans u.tape,u2.output.trans u.output,Nat.le_trans u.size u2.size,fun q hq hn=>(u2.block q (Nat.lt_of_lt_of_le hq u.size) (by simp at hn ⊢;omega)).trans (u.block q hq hn)⟩
theorem feedEnd {w wr w2:World} {c p lim g0 n g h cap g2 h2 cap2:Nat} {t:Tr} {cu0 cu:Sp.Cu} {K0 K:List UInt8} {rs:List Sp.Rec} {vr:Value} (C:CuSt wr c p lim g h cap cu) (R:RecsAt wr w.heap.size vr (n+1) rs) (e1:rs++Sp.feedR (apartS t lim) lim cu K=Sp.feedR (apartS t lim) lim cu0 K0) (e2:Sp.feedC lim cu K=Sp.feedC lim cu0 K0) (hg:g=g0∨w.heap.size≤g) (hu:Upd [c,g0] w wr) (hn:∀ x∈K,x≠10) (hg2:g2=g∨wr.heap.size≤g2) (C2:CuAt w2 c p lim cu.num cu.frm (cu.len+K.length) (.slice (some ⟨g2,0,none⟩) h2 cap2) (cu.held++K.take (lim - cu.held.length))) (u2:Upd [c,g] wr w2):FeedOut w c p lim g0 t n cu0 K0 vr w2:=by
 have a1:Sp.feedR (apartS t lim) lim cu K=[]:=by have:=Sp.feedR_take (apartS t lim) lim K cu [] hn;rw [List.append_nil] at this;rw [this];rfl
 have a2:Sp.feedC lim cu K=Sp.takeC lim cu K:=by have:=Sp.feedC_take lim K cu [] hn;rw [List.append_nil] at this;rw [this];rfl
 rw [a1,List.append_nil] at e1
 rw [a2] at e2
 have hsz:=hu.size
 refine⟨?_,⟨g2,h2,cap2,by omega,?_⟩,hu.gs u2 hg⟩
 ·rw [← e1]
  refine R.keep u2 ?_ ?_
  ·intro k hk;simp at hk;rcases hk with rfl|rfl
   ·exact (CuAt.ty C).notSp (by decide)
   ·exact (CuAt.tyg C).notSp (by decide)
  ·intro k hk hm;simp at hm;rcases hm with rfl|rfl
   ·exact TyIs.ne (R.ty hk) (CuAt.ty C) (by decide) rfl
   ·exact TyIs.ne (R.ty hk) (CuAt.tyg C) (by decide) rfl
 ·rw [← e2];exact C2
theorem feedStep {w wr w2 w3 w5:World} {c p lim g0 n g h cap g2 h2 cap2 blk off cp off' cp' m gm hi:Nat} {t:Tr} {cu0 cu:Sp.Cu} {K0 K A M:List UInt8} {rs:List Sp.Rec} {vr v':Value} {a:Option Addr} {xs:List Value} {o:Obj} (hb:blk < w.heap.size) (hbc:blk≠c) (hbg:blk≠g0)
  (B:BytesAt wr blk off K) (C:CuSt wr c p lim g h cap cu) (hf:cu.fit lim) (e1:rs++Sp.feedR (apartS t lim) lim cu K=Sp.feedR (apartS t lim) lim cu0 K0) (e2:Sp.feedC lim cu K=Sp.feedC lim cu0 K0) (hg:g=g0∨w.heap.size≤g) (hu:Upd [c,g0] w wr) (b1:cu.num+K.length≤2200000) (b2:cu.frm+cu.len+K.length≤2200000) (b3:rs.length+K.length≤2200000) (b4:K.length≤1050000) (hcp:K.length≤cp)
  (hK:K=A++10::M) (hn:∀ x∈A,x≠10) (hM:M.length=gm) (hg2:g2=g∨wr.heap.size≤g2) (u2:Upd [c,g] wr w2) (C3:CuSt w3 c p lim g2 0 cap2 (Sp.nextC (Sp.takeC lim cu A))) (u3:Upd [c] w2 w3) (hs:RecSp w3 a m (n+1) (Sp.overR (apartS t lim) (Sp.takeC lim cu A)).sp)
  (own:w5.ownsRow w.heap.size 94 5 v' (rs.length+1) (xs++recV (Sp.overR (apartS t lim) (Sp.takeC lim cu A)) a m)) (hown:(w3.alloc o).ownsRow w.heap.size 94 5 vr rs.length xs) (hx:RecsL w3 (n+1) hi w.heap.size rs xs) (hhi:hi≤w2.heap.size) (hq3:∀ q o s,a=some ⟨q,o,s⟩→w2.heap.size≤q) (hgr:(w3.alloc o).grownBy w5 vr.ownBlock) (ho:off'=off+(A.length+1)∨M.length=0) (hcp2:M.length≤cp') :
  FdInv w c p lim g0 t n blk cu0 K0 gm (.slice (some ⟨blk,off',none⟩) (K.length - (A.length+1)) cp') v' w5:=by
 have hl:K.length=A.length+1+M.length:=by rw [hK];simp;omega
 have f1:Sp.feedR (apartS t lim) lim cu K=Sp.overR (apartS t lim) (Sp.takeC lim cu A)::Sp.feedR (apartS t lim) lim (Sp.nextC (Sp.takeC lim cu A)) M:=by rw [hK,Sp.feedR_take _ _ _ _ _ hn,Sp.feedR_nl]
 have f2:Sp.feedC lim cu K=Sp.feedC lim (Sp.nextC (Sp.takeC lim cu A)) M:=by rw [hK,Sp.feedC_take _ _ _ _ hn,Sp.feedC_nl]
 have ua:Upd [c] w3 (w3.alloc o):=Upd.alloc (Upd.refl _ _) o
 have u3':Upd [c] w2 (w3.alloc o):=u3.trans ua
 have ty:∀ k,vr.ownBlock=some k→TyIs (w3.alloc o) k 94:=fun k hk=>by
  rcases hown.2 with ⟨q,_⟩|⟨g',cap',cur,q,_,e3,_⟩
  ·subst q;cases hk
  ·subst q;simp [Value.ownBlock] at hk;subst hk;exact⟨_,e3⟩
 have C4:CuSt (w3.alloc o) c p lim g2 0 cap2 (Sp.nextC (Sp.takeC lim cu A)):=CuAt.blocks C3 (Below.heap_alloc _ _ _ (lt_of_heap C3.cell)) (fun k hk=>Below.heap_alloc _ _ _ (ownBlock_lt C3.held hk).1)
 have ug:=Upd.of_grown hgr
 have C5:CuSt w5 c p lim g2 0 cap2 (Sp.nextC (Sp.takeC lim cu A)):=CuAt.blocks C4 (ug.block c (lt_of_heap C4.cell) (fun hm=>TyIs.ne (ty c (by simpa using hm)) (CuAt.ty C4) (by decide) rfl)) (fun k hk=>ug.block k (ownBlock_lt C4.held hk).1 (fun hm=>by
  simp [Value.ownBlock] at hk
  subst hk
  exact TyIs.ne (ty g2 (by simpa using hm)) (CuAt.tyg C4) (by decide) rfl))
 have hsz:=hu.size
 have U4:Upd [c,g0] w (w3.alloc o):=(hu.gs u2 hg).trans (u3'.mono (by simp))
 have U5:Upd [c,g0] w w5:=grown_ups (Nat.le_refl _) U4 hown hgr
 refine⟨Sp.nextC (Sp.takeC lim cu A),M,rs++[Sp.overR (apartS t lim) (Sp.takeC lim cu A)],off',cp',g2,0,cap2,?_,hcp2,hM,?_,C5,Sp.fit_next _ _,⟨_,w3.heap.size,by rw [List.length_append];exact own,?_,Nat.le_trans (ua.size) ug.size⟩,?_,?_,by omega,U5,?_,?_,?_,by omega⟩
 ·rw [hl];congr 1;omega
 ·have B':BytesAt wr blk (off+(A.length+1)) M:=by
   have hB:=B
   rw [hK,show A++10::M=(A++[10])++M by simp] at hB
   have:=hB.post
   simpa using this
  have hblk:blk < wr.heap.size:=by omega
  intro j x hj
  have hx:=B' j x hj
  rcases ho with rfl|h0
  rotate_left
  ·rw [List.eq_nil_of_length_eq_zero h0] at hj;simp at hj
  have q:w5.heap[blk]?=wr.heap[blk]?:=(U5.block blk hb (by simp;exact⟨hbc,hbg⟩)).trans (hu.block blk hb (by simp;exact⟨hbc,hbg⟩)).symm
  exact (cell_eq q _).trans hx
 ·refine (((hx.append (RecsL.one hs (Nat.le_trans hhi u3.size) (fun q o s e=>Nat.le_trans hhi (hq3 q o s e)))).keep ua (fun k hk=>?_))).keep ug (fun k hk=>(ty k (by simpa using hk)).notSp (by decide))
  simp at hk;subst hk;exact (CuAt.ty C3).notSp (by decide)
 ·rw [List.append_assoc,← e1,f1];rfl
 ·rw [← e2,f2]
 ·simp [Sp.nextC,Sp.takeC];omega
 ·simp [Sp.nextC,Sp.takeC];omega
 ·simp;omega
set_option maxRecDepth 8000 in
set_option maxHeartbeats 1600000 in
theorem cuFeed_any (c p lim g0 h0 cap0:Nat) (t:Tr) (n blk off0 cp0:Nat) (cu0:Sp.Cu) (K0:List UInt8) (w:World) (hl:lim≤100) (hK0:K0.length≤1050000) (hcp:K0.length≤cp0) (hnum:cu0.num≤1050000) (hsum:cu0.frm+cu0.len≤1050000) (hfit:cu0.fit lim) (B:BytesAt w blk off0 K0) (C:CuSt w c p lim g0 h0 cap0 cu0) (P:∀ w2,Upd [c,g0] w w2→PatAt w2 p t n) (hb:blk < w.heap.size) (hbc:blk≠c) (hbg:blk≠g0):Calls Tryz.prog 55 #[.pointer (some ⟨c,0,none⟩),.slice (some ⟨blk,off0,none⟩) K0.length cp0] w fun e w'=>∃ v,e=.returned v∧FeedOut w c p lim g0 t n cu0 K0 v w':=by
 have HP:Hid (∀ w2,Upd [c,g0] w w2→PatAt w2 p t n):=P
 have START:Hid (FdInv w c p lim g0 t n blk cu0 K0 K0.length (.slice (some ⟨blk,off0,none⟩) K0.length cp0) (.slice none 0 0) w):=⟨cu0,K0,[],off0,cp0,g0,h0,cap0,rfl,hcp,rfl,B,C,hfit,RecsAt.nil _ _ _ (Nat.le_refl _),rfl,rfl,Or.inl rfl,Upd.refl _ _,by omega,by omega,by simp;omega,hK0⟩
 clear P B C
 go_enter Tryz.func55,Tryz.ntmps55
 go_wp2_with fail
 go_loopg [1,5] K0.length (fun gn vb vr wr=>FdInv w c p lim g0 t n blk cu0 K0 gn vb vr wr)
 case atStart=>exact START.out
 case round=>
  obtain⟨cu,K,rs,off,cp,g,h,cap,hvb,hcp',hgn,hB,hC,hf,hR,hrs,hfc,hg,hu,hb1,hb2,hb3,hKb⟩:=hrel.st
  subst hvb
  have HB:Hid (BytesAt wr blk off K):=hB
  have HC:Hid (CuSt wr c p lim g h cap cu):=hC
  have HF:Hid (cu.fit lim):=hf
  have HR:Hid (RecsAt wr w.heap.size u5 (n+1) rs):=hR
  have HE1:Hid (rs++Sp.feedR (apartS t lim) lim cu K=Sp.feedR (apartS t lim) lim cu0 K0):=hrs
  have HE2:Hid (Sp.feedC lim cu K=Sp.feedC lim cu0 K0):=hfc
  have HG:Hid (g=g0∨w.heap.size≤g):=hg
  have HU:Hid (Upd [c,g0] w wr):=hu
  have hh:=(hC.len hf).1
  have HL:Hid (cu.held.length=h):=(hC.len hf).2
  have HPR:Hid (PatAt wr p t n):=HP.out _ hu
  have HGN:Hid (K.length=gk):=hgn
  clear hB hC hf hR hrs hfc hg hu hgn
  go_wp2_with fail
  refine (indexNl_any blk off K.length cp K _ rfl HB.out).mono ?_
  rintro e w1 ⟨rfl,rfl⟩
  rcases atNl_spec K with ⟨q1,q2⟩|⟨A,M,q1,q2,q3⟩
  ·have Q2:Hid (∀ x∈K,x≠10):=q2
   clear q2
   rw [q1]
   clear q1
   go_wp2_with fail
   refine (cuTake_any c p lim cu.num cu.frm cu.len g h cap cu.held blk off K.length cp K _ hl (by omega) (by omega) hh hcp' rfl HB.out HC.out).mono ?_
   rintro e w2 ⟨g2,cap2,rfl,hg2,c2,u2⟩
   have FE:Hid (FeedOut w c p lim g0 t n cu0 K0 u5 w2):=feedEnd HC.out HR.out HE1.out HE2.out HG.out HU.out Q2.out hg2 (by rw [HL.out];exact c2) u2
   clear hg2 c2 u2
   go_wp2_with fail
   go_ret
   exact⟨_,rfl,FE.out⟩
  ·have HK:Hid (K=A++10::M):=q1
   have Q2:Hid (∀ x∈A,x≠10):=q2
   obtain⟨na,hna⟩:∃ na,A.length=na:=⟨_,rfl⟩
   have HNA:Hid (A.length=na):=hna
   have hlt:na+1+M.length=K.length:=by rw [q1];simp;omega
   rw [hna] at q3
   rw [q3]
   have h1:¬ (na:Int) < 0:=by omega
   have h2:na≤K.length:=by omega
   have h3:na+1≤K.length:=by omega
   clear q1 q2 q3 hna
   have HBA:Hid (BytesAt w1 blk off A):=by have:=HB.out;rw [HK.out] at this;exact this.pre
   go_wp2_with fail
   refine (cuTake_any c p lim cu.num cu.frm cu.len g h cap cu.held blk off na cp A _ hl (by omega) (by omega) hh (by omega) HNA.out HBA.out HC.out).mono ?_
   rintro e w2 ⟨g2,cap2,rfl,hg2,c2,u2⟩
   have HG2:Hid (g2=g∨w1.heap.size≤g2):=hg2
   obtain⟨cu2,hcu2⟩:∃ x,x=Sp.takeC lim cu A:=⟨_,rfl⟩
   have HCU:Hid (cu2=Sp.takeC lim cu A):=hcu2
   have HC2:Hid (CuSt w2 c p lim g2 (h+min (lim - h) na) cap2 cu2):=by show CuAt _ _ _ _ _ _ _ _ _;rw [hcu2];simp only [Sp.takeC];rw [HL.out,HNA.out];exact c2
   have HF2:Hid (cu2.fit lim):=by show Sp.Cu.fit lim cu2;rw [hcu2];exact Sp.fit_take HF.out A
   have hL2:cu2.held.length≤lim:=by have:cu2.held.length=min cu2.len lim:=HF2.out;omega
   have hn2:cu2.num≤3000000:=by rw [hcu2];show cu.num≤_;omega
   have hf2:cu2.frm≤3000000:=by rw [hcu2];show cu.frm≤_;omega
   have hl2:cu2.len≤3000000:=by rw [hcu2];show cu.len+A.length≤_;rw [HNA.out];omega
   have U2:Hid (Upd [c,g] w1 w2):=u2
   have HP2:Hid (PatAt w2 p t n):=HP.out _ (HU.out.gs u2 HG.out)
   have hR2:RecsAt w2 w.heap.size u5 (n+1) rs:=by
    refine HR.out.keep u2 ?_ ?_
    ·intro k hk;simp at hk;rcases hk with rfl|rfl
     ·exact (CuAt.ty HC.out).notSp (by decide)
     ·exact (CuAt.tyg HC.out).notSp (by decide)
    ·intro k hk hm;simp at hm;rcases hm with rfl|rfl
     ·exact TyIs.ne (HR.out.ty hk) (CuAt.ty HC.out) (by decide) rfl
     ·exact TyIs.ne (HR.out.ty hk) (CuAt.tyg HC.out) (by decide) rfl
   have HR2:Hid (RecsAt w2 w.heap.size u5 (n+1) rs):=hR2
   clear hg2 c2 u2 hcu2 hR2
   go_wp2_with fail
   refine (cuOver_any c p lim cu2.num cu2.frm cu2.len g2 (h+min (lim - h) na) cap2 cu2.held t n _ hl hL2 hn2 hf2 hl2 HC2.out HP2.out).mono ?_
   rintro e w3 ⟨a,m,rfl,hs,hq,c3,u3⟩
   have HS:Hid (RecSp w3 a m (n+1) (Sp.overR (apartS t lim) cu2).sp):=hs
   have HC3:Hid (CuSt w3 c p lim g2 0 cap2 (Sp.nextC cu2)):=c3
   have U3:Hid (Upd [c] w2 w3):=u3
   obtain⟨xs,hi,p1,q1,hhi⟩:=HR2.out.ex
   have o1:w3.ownsRow w.heap.size 94 5 u5 rs.length xs:=ownsRow_same p1 (fun k hk hlt=>u3.block k hlt (by simp;intro e;subst e;exact TyIs.ne (HR2.out.ty hk) (CuAt.ty HC2.out) (by decide) rfl))
   have HX:Hid (RecsL w3 (n+1) hi w.heap.size rs xs):=q1.keep u3 (fun k hk=>by simp at hk;subst hk;exact (CuAt.ty HC2.out).notSp (by decide))
   have HHI:Hid (hi≤w2.heap.size):=hhi
   have HQ3:Hid (∀ q o s,a=some ⟨q,o,s⟩→w2.heap.size≤q):=hq
   obtain⟨r5,hr5⟩:∃ r5,r5=recV (Sp.overR (apartS t lim) cu2) a m:=⟨_,rfl⟩
   have HR5:Hid (r5=recV (Sp.overR (apartS t lim) cu2) a m):=hr5
   have hsz3:w.heap.size≤w3.heap.size:=Nat.le_trans HU.out.size (Nat.le_trans U2.out.size u3.size)
   have HA:Hid ((w3.alloc (.cells #[.int .i64 cu2.num,.int .i64 cu2.frm,.int .i64 cu2.len,.int .i64 (apartS t lim cu2.frm cu2.len cu2.held).1,.slice a m m] 94)).ownsRow w.heap.size 94 5 u5 rs.length xs):=ownsRow_same o1 (fun k hk hlt=>Below.heap_alloc _ _ _ hlt)
   obtain⟨it,hi1,hi2,hi3,hi4⟩:=pInfoRec
   have HI:Hid (Tryz.prog.info? 94=some it∧it.zero=some (.agg #[.int .i64 0,.int .i64 0,.int .i64 0,.int .i64 0,.slice none 0 0])∧it.size=5∧it.bytes=56):=⟨hi1,hi2,hi3,hi4⟩
   clear hs hq c3 u3 o1 p1 q1 hhi hr5 hi1 hi2 hi3 hi4
   obtain⟨gm,hgm⟩:∃ k,M.length=k:=⟨_,rfl⟩
   have HGM:Hid (M.length=gm):=hgm
   go_wp2_with (first|(at_builtin;refine wpList_append_own_at _ rfl _ _ 92 rfl w.heap.size 94 it (.agg #[.int .i64 0,.int .i64 0,.int .i64 0,.int .i64 0,.slice none 0 0]) 5 56 Tryz.underlying92 HI.out.1 HI.out.2.1 HI.out.2.2.1 HI.out.2.2.2 rfl (by decide) _ _ _ rfl HA.out ⟨w3.heap.size,0,none⟩ 1 1 [.int .i64 cu2.num,.int .i64 cu2.frm,.int .i64 cu2.len,.int .i64 (apartS t lim cu2.frm cu2.len cu2.held).1,.slice a m m] rfl rfl ?c1 ?c2 ?c3 ?c4 ?c5 ?_)|fail)
   case c1=>exact cells_five _ _ _ _ _ _
   case c2=>intro u hu;simp at hu;rcases hu with rfl|rfl|rfl|rfl|rfl<;>rfl
   case c3=>unfold maxLen;omega
   case c4=>omega
   case c5=>simp;omega
   intro v' w5 hown' hgrow hnil hloc
   have RL:∀ off' cp',(off'=off+(A.length+1)∨M.length=0)→M.length≤cp'→FdInv w c p lim g0 t n blk cu0 K0 gm (.slice (some ⟨blk,off',none⟩) (K.length - (na+1)) cp') v' w5:=fun off' cp' ho hc=>by
    have:=feedStep (g2:=g2) (h2:=h+min (lim - h) na) (cap2:=cap2) (m:=m) (a:=a) (v':=v') (xs:=xs) (w5:=w5) hb hbc hbg HB.out HC.out HF.out HE1.out HE2.out HG.out HU.out hb1 hb2 hb3 hKb hcp' HK.out Q2.out HGM.out HG2.out U2.out (by rw [← HCU.out];exact HC3.out) U3.out (by rw [← HCU.out];exact HS.out) (by rw [← HCU.out];exact hown') HA.out HX.out HHI.out HQ3.out hgrow ho hc
    rw [HNA.out] at this
    exact this
   have RL1:Hid (FdInv w c p lim g0 t n blk cu0 K0 gm (.slice (some ⟨blk,off+(na+1),none⟩) (K.length - (na+1)) (cp - (na+1))) v' w5):=RL _ _ (Or.inl (by rw [HNA.out])) (by omega)
   have RL2:Hid (cp≤na+1→FdInv w c p lim g0 t n blk cu0 K0 gm (.slice (some ⟨blk,off,none⟩) (K.length - (na+1)) 0) v' w5):=fun hz=>RL _ _ (Or.inr (by omega)) (by omega)
   clear hown' hgrow hnil hloc RL
   go_wp2_with fail
   all_goals go_roundg gm
   all_goals first
    | (have:=HGN.out;omega)
    | exact RL1.out
    | exact RL2.out (by omega)
structure CloseOut (w:World) (l:List Nat) (t:Tr) (n lim:Nat) (cu:Sp.Cu) (v:Value) (w':World):Prop where
 recs:RecsAt w' w.heap.size v (n+1) (Sp.closeR (apartS t lim) cu)
 upd:Upd l w w'
theorem closeEnd {w w3:World} {c n m:Nat} {ap:Sp.Ap} {cu:Sp.Cu} {a:Option Addr} (hr:Sp.closeR ap cu=[Sp.overR ap cu]) (hs:RecSp w3 a m (n+1) (Sp.overR ap cu).sp) (u:Upd [c] w w3) (hq:∀ q o s,a=some ⟨q,o,s⟩→w.heap.size≤q) :
  RecsAt (w3.alloc (.cells #[.int .i64 cu.num,.int .i64 cu.frm,.int .i64 cu.len,.int .i64 (ap cu.frm cu.len cu.held).1,.slice a m m] 94)) w.heap.size (.slice (some ⟨w3.heap.size,0,none⟩) 1 1) (n+1) (Sp.closeR ap cu):=by
 rw [hr]
 refine⟨recV (Sp.overR ap cu) a m,w3.heap.size,⟨rfl,Or.inr ⟨w3.heap.size,1,_,rfl,u.size,heap_new rfl,Nat.le_refl _,by unfold maxLen;omega,rfl,rfl⟩⟩,RecsL.keep (l:=[]) (by (repeat (first|exact Upd.refl _ _|refine Upd.drewN ?_|refine Upd.drew ?_|refine Upd.setCell ?_ (by simp) _|refine Upd.alloc ?_ _))) (by simp) (RecsL.one hs u.size hq),by show w3.heap.size≤(w3.heap.push _).size;simp⟩
theorem FeedOut.pre {w w1 w2:World} {c p lim g0 n:Nat} {t:Tr} {cu0:Sp.Cu} {K0:List UInt8} {v:Value} (h:FeedOut w1 c p lim g0 t n cu0 K0 v w2) (u:Upd [] w w1):FeedOut w c p lim g0 t n cu0 K0 v w2:=by
 have:=u.size
 obtain⟨g,hh,cap,e1,e2⟩:=h.cut
 exact⟨h.recs.mono u.size,⟨g,hh,cap,by omega,e2⟩,(u.mono (by simp)).trans h.upd⟩
def StShut (w:World) (s:Nat):Prop:=w.heap[s]?=some (.cells #[.pointer none] 103)
theorem CloseOut.shut {w w1 w2:World} {s c n lim:Nat} {t:Tr} {cu:Sp.Cu} {v:Value} (h:CloseOut w1 [c] t n lim cu v w2) (S:StAt w2 s c) (u:Upd [] w w1):CloseOut w [c,s] t n lim cu v (w2.setCell ⟨s,0,none⟩ (.pointer none))∧StShut (w2.setCell ⟨s,0,none⟩ (.pointer none)) s:=by
 refine⟨?_,heap_set S 0 _⟩
 have us:Upd [s] w2 (w2.setCell ⟨s,0,none⟩ (.pointer none)):=Upd.setCell (Upd.refl _ _) (by simp) _
 have ts:TyIs w2 s 103:=⟨_,S⟩
 refine⟨((h.recs.mono u.size).keep us ?_ ?_),((u.mono (by simp)).trans (h.upd.mono (by simp))).trans (us.mono (by simp))⟩
 ·intro k hk;simp at hk;subst hk;exact ts.notSp (by decide)
 ·intro k hk hm;simp at hm;subst hm;exact TyIs.ne (h.recs.ty hk) ts (by decide) rfl
set_option maxRecDepth 8000 in
set_option maxHeartbeats 1600000 in
theorem cuClose_no (c p lim g h cap:Nat) (t:Tr) (n:Nat) (cu:Sp.Cu) (w:World) (C:CuSt w c p lim g h cap cu) (h0:cu.len=0):Calls Tryz.prog 56 #[.pointer (some ⟨c,0,none⟩)] w fun e w'=>∃ v,e=.returned v∧CloseOut w [c] t n lim cu v w':=by
 have c4:w.cell? ⟨c,4,none⟩=some (.int .i64 0):=by rw [World.cell?,C.cell,h0];rfl
 clear C
 have hr:Hid (Sp.closeR (apartS t lim) cu=[]):=by show _=_;unfold Sp.closeR;rw [if_pos h0]
 go_enter Tryz.func56,Tryz.ntmps56
 go_wp2_with fail
 go_ret
 refine⟨_,rfl,?_,by (repeat (first|exact Upd.refl _ _|refine Upd.drewN ?_|refine Upd.drew ?_|refine Upd.setCell ?_ (by simp) _|refine Upd.alloc ?_ _))⟩
 rw [hr.out];exact RecsAt.nil _ _ _ (Nat.le_refl _)
set_option maxRecDepth 8000 in
set_option maxHeartbeats 1600000 in
theorem cuClose_yes (c p lim g h cap:Nat) (t:Tr) (n:Nat) (cu:Sp.Cu) (w:World) (hl:lim≤100) (hnum:cu.num≤2200000) (hsum:cu.frm+cu.len≤2200000) (hfit:cu.fit lim) (C:CuSt w c p lim g h cap cu) (P:PatAt w p t n) (h0:cu.len≠0):Calls Tryz.prog 56 #[.pointer (some ⟨c,0,none⟩)] w fun e w'=>∃ v,e=.returned v∧CloseOut w [c] t n lim cu v w':=by
 have c4:w.cell? ⟨c,4,none⟩=some (.int .i64 cu.len):=by rw [World.cell?,C.cell];rfl
 have HC:Hid (CuSt w c p lim g h cap cu):=C
 have HP:Hid (PatAt w p t n):=P
 have hr:Hid (Sp.closeR (apartS t lim) cu=[Sp.overR (apartS t lim) cu]):=by show _=_;unfold Sp.closeR;rw [if_neg h0]
 have hne:¬ (cu.len:Int)=0:=by omega
 clear C P
 go_enter Tryz.func56,Tryz.ntmps56
 go_wp2_with fail
 have hL:cu.held.length≤lim:=by have:cu.held.length=min cu.len lim:=hfit;omega
 refine (cuOver_any c p lim cu.num cu.frm cu.len g h cap cu.held t n _ hl hL (by omega) (by omega) (by omega) HC.out HP.out).mono ?_
 rintro e w3 ⟨a,m,rfl,hs,hq,c3,u3⟩
 have HS:Hid (RecSp w3 a m (n+1) (Sp.overR (apartS t lim) cu).sp):=hs
 have U3:Hid (Upd [c] w w3):=u3
 have HQ:Hid (∀ q o s,a=some ⟨q,o,s⟩→w.heap.size≤q):=hq
 clear hs hq c3 u3
 go_wp2_with fail
 go_ret
 refine⟨_,rfl,closeEnd hr.out HS.out U3.out HQ.out,U3.out.trans (by (repeat (first|exact Upd.refl _ _|refine Upd.drewN ?_|refine Upd.drew ?_|refine Upd.setCell ?_ (by simp) _|refine Upd.alloc ?_ _)))⟩
theorem cuClose_any (c p lim g h cap:Nat) (t:Tr) (n:Nat) (cu:Sp.Cu) (w:World) (hl:lim≤100) (hnum:cu.num≤2200000) (hsum:cu.frm+cu.len≤2200000) (hfit:cu.fit lim) (C:CuSt w c p lim g h cap cu) (P:PatAt w p t n):Calls Tryz.prog 56 #[.pointer (some ⟨c,0,none⟩)] w fun e w'=>∃ v,e=.returned v∧CloseOut w [c] t n lim cu v w':=by
 by_cases h0:cu.len=0
 ·exact cuClose_no c p lim g h cap t n cu w C h0
 ·exact cuClose_yes c p lim g h cap t n cu w hl hnum hsum hfit C P h0
set_option maxRecDepth 8000 in
set_option maxHeartbeats 1600000 in
theorem stFeed_any (s c p lim g0 h0 cap0:Nat) (t:Tr) (n blk off0 cp0:Nat) (cu0:Sp.Cu) (K0:List UInt8) (w:World) (hl:lim≤100) (hK0:K0.length≤1050000) (hcp:K0.length≤cp0) (hnum:cu0.num≤1050000) (hsum:cu0.frm+cu0.len≤1050000) (hfit:cu0.fit lim) (B:BytesAt w blk off0 K0) (S:StAt w s c) (C:CuSt w c p lim g0 h0 cap0 cu0) (P:∀ w2,Upd [c,g0] w w2→PatAt w2 p t n) (hb:blk < w.heap.size) (hbc:blk≠c) (hbg:blk≠g0):Calls Tryz.prog 31 #[.pointer (some ⟨s,0,none⟩),.slice (some ⟨blk,off0,none⟩) K0.length cp0] w fun e w'=>∃ v,e=.returned (.tuple #[v,.int .i64 0])∧FeedOut w c p lim g0 t n cu0 K0 v w':=by
 have HS:Hid (StAt w s c):=S
 have HB:Hid (BytesAt w blk off0 K0):=B
 have HC:Hid (CuSt w c p lim g0 h0 cap0 cu0):=C
 have HP:Hid (∀ w2,Upd [c,g0] w w2→PatAt w2 p t n):=P
 obtain⟨m,hm⟩:∃ m,K0.length=m:=⟨_,rfl⟩
 clear S B C P
 go_enter Tryz.func31,Tryz.ntmps31
 go_wp2_with fail
 refine (stRef_any s c w HS.out).mono ?_
 rintro e w1 ⟨rfl,u1⟩
 have U1:Hid (Upd [] w w1):=u1
 have s0:w1.cell? ⟨s,0,none⟩=some (.pointer (some ⟨c,0,none⟩)):=by
  have h:=(u1.block s (lt_of_heap HS.out) (by simp)).trans HS.out
  rw [World.cell?,h];rfl
 have HC1:Hid (CuSt w1 c p lim g0 h0 cap0 cu0):=CuAt.blocks HC.out (u1.block c (lt_of_heap HC.out.cell) (by simp)) (fun k hk=>u1.block k (ownBlock_lt HC.out.held hk).1 (by simp))
 have HB1:Hid (BytesAt w1 blk off0 K0):=HB.out.keep u1 hb (by simp)
 have hb1:blk < w1.heap.size:=Nat.lt_of_lt_of_le hb u1.size
 clear u1
 go_wp2_with fail
 subst hm
 refine (cuFeed_any c p lim g0 h0 cap0 t n blk off0 cp0 cu0 K0 _ hl hK0 hcp hnum hsum hfit HB1.out HC1.out (fun w2 u=>HP.out w2 ((U1.out.mono (by simp)).trans u)) hb1 hbc hbg).mono ?_
 rintro e w2 ⟨v,rfl,F⟩
 have HF:Hid (FeedOut w1 c p lim g0 t n cu0 K0 v w2):=F
 clear F
 go_wp2_with fail
 go_ret2
 exact⟨v,rfl,HF.out.pre U1.out⟩
set_option maxRecDepth 8000 in
set_option maxHeartbeats 1600000 in
theorem stClose_any (s c p lim g h cap:Nat) (t:Tr) (n:Nat) (cu:Sp.Cu) (w:World) (hl:lim≤100) (hnum:cu.num≤2200000) (hsum:cu.frm+cu.len≤2200000) (hfit:cu.fit lim) (S:StAt w s c) (C:CuSt w c p lim g h cap cu) (P:PatAt w p t n):Calls Tryz.prog 32 #[.pointer (some ⟨s,0,none⟩)] w fun e w'=>∃ v,e=.returned (.tuple #[v,.int .i64 0])∧CloseOut w [c,s] t n lim cu v w'∧StShut w' s:=by
 have HS:Hid (StAt w s c):=S
 have HC:Hid (CuSt w c p lim g h cap cu):=C
 have HP:Hid (PatAt w p t n):=P
 clear S C P
 go_enter Tryz.func32,Tryz.ntmps32
 go_wp2_with fail
 refine (stRef_any s c w HS.out).mono ?_
 rintro e w1 ⟨rfl,u1⟩
 have U1:Hid (Upd [] w w1):=u1
 have hS1:StAt w1 s c:=(u1.block s (lt_of_heap HS.out) (by simp)).trans HS.out
 have HS1:Hid (StAt w1 s c):=hS1
 have s0:w1.cell? ⟨s,0,none⟩=some (.pointer (some ⟨c,0,none⟩)):=by rw [World.cell?,hS1];rfl
 have HC1:Hid (CuSt w1 c p lim g h cap cu):=CuAt.blocks HC.out (u1.block c (lt_of_heap HC.out.cell) (by simp)) (fun k hk=>u1.block k (ownBlock_lt HC.out.held hk).1 (by simp))
 have HP1:Hid (PatAt w1 p t n):=HP.out.upd u1
 clear u1 hS1
 go_wp2_with fail
 refine (cuClose_any c p lim g h cap t n cu _ hl hnum hsum hfit HC1.out HP1.out).mono ?_
 rintro e w2 ⟨v,rfl,F⟩
 have HF:Hid (CloseOut w1 [c] t n lim cu v w2):=F
 have hS2:StAt w2 s c:=(F.upd.block s (lt_of_heap HS1.out) (fun hm=>by
  have e1:s=c:=by simpa using hm
  exact TyIs.ne (⟨_,HS1.out⟩:TyIs w1 s 103) (CuAt.ty HC1.out) (by decide) e1)).trans HS1.out
 have HS2:Hid (StAt w2 s c):=hS2
 have fz:w2.frozen? ⟨s,0,none⟩=false:=by rw [World.frozen?,hS2];rfl
 have s2:w2.cell? ⟨s,0,none⟩=some (.pointer (some ⟨c,0,none⟩)):=by rw [World.cell?,hS2];rfl
 clear F hS2
 go_wp2_with fail
 go_ret2
 exact⟨v,rfl,HF.out.shut HS2.out U1.out⟩
set_option maxRecDepth 8000 in
set_option maxHeartbeats 1600000 in
theorem stHeld_any (s c p lim g h cap:Nat) (cu:Sp.Cu) (w:World) (S:StAt w s c) (C:CuSt w c p lim g h cap cu):Calls Tryz.prog 37 #[.pointer (some ⟨s,0,none⟩)] w fun e w'=>e=.returned (.tuple #[.int .i64 cu.held.length,.int .i64 0])∧Upd [] w w':=by
 have HS:Hid (StAt w s c):=S
 have HC:Hid (CuSt w c p lim g h cap cu):=C
 have hh:Hid (cu.held.length=h):=(CuAt.len C).1
 have s0:w.cell? ⟨s,0,none⟩=some (.pointer (some ⟨c,0,none⟩)):=by unfold StAt at S;rw [World.cell?,S];rfl
 clear S C
 go_enter Tryz.func37,Tryz.ntmps37
 go_wp2_with fail
 refine (cuHeld_any c p lim cu.num cu.frm cu.len g h cap cu.held _ HC.out).mono ?_
 rintro e w2 ⟨rfl,u2⟩
 have U2:Hid (Upd [] w w2):=u2
 clear u2
 go_wp2_with fail
 go_ret2
 exact⟨by rw [hh.out];rfl,U2.out⟩
def spLen (n:Nat):Option (Nat→Int×Int)→Nat
 | none=>0
 | some _=>n
def spFun:Option (Nat→Int×Int)→Nat→Int×Int
 | none=>Sp.nowh
 | some f=>f
theorem RecSp.spl {w:World} {a:Option Addr} {m n:Nat} {r:Option (Nat→Int×Int)} (h:RecSp w a m n r) (hn:n≤1000):SpL w (.slice a m m) (spLen n r) (spFun r):=by
 cases r with
 | none=>obtain⟨rfl,rfl⟩:=h;exact SpL.nil _ _
 | some f=>obtain⟨q,rfl,rfl,e3⟩:=h;exact SpansAt.own e3 hn
theorem spLen_le {n:Nat} (r:Option (Nat→Int×Int)):spLen n r≤n:=by cases r<;>simp [spLen]
theorem RecsL.get {w:World} {n hi:Nat}:∀ {lo:Nat} {rs:List Sp.Rec} {xs:List Value},RecsL w n hi lo rs xs→∀ (i:Nat) (r:Sp.Rec),rs[i]?=some r→∃ a m,(∀ k,k < 5→xs[i * 5+k]?=(recV r a m)[k]?)∧RecSp w a m n r.sp
 | lo,[],xs,h,i,r,hr=>by simp at hr
 | lo,r0::rs,xs,h,i,r,hr=>by
  obtain⟨a,m,ys,l2,e,h1,h3,h2⟩:=h
  cases i with
  | zero=>
   have:r0=r:=by simpa using hr
   subst this
   refine⟨a,m,fun k hk=>?_,h1⟩
   rw [e,List.getElem?_append_left (by simp [recV];omega)]
   simp
  | succ i=>
   obtain⟨a',m',k1,k2⟩:=h2.get i r (by simpa using hr)
   refine⟨a',m',fun k hk=>?_,k2⟩
   rw [e,List.getElem?_append_right (by simp [recV];omega),← k1 k hk]
   congr 1
   simp [recV];omega
structure RecCell (w:World) (g i n:Nat) (r:Sp.Rec) (a:Option Addr) (m:Nat):Prop where
 c0:w.cell? ⟨g,i * 5,none⟩=some (.int .i64 r.num)
 c1:w.cell? ⟨g,i * 5+1,none⟩=some (.int .i64 r.frm)
 c2:w.cell? ⟨g,i * 5+2,none⟩=some (.int .i64 r.len)
 c3:w.cell? ⟨g,i * 5+3,none⟩=some (.int .i64 r.code)
 c4:w.cell? ⟨g,i * 5+4,none⟩=some (.slice a m m)
 sp:RecSp w a m n r.sp
theorem RecsAt.get {w:World} {b n g cap i:Nat} {rs:List Sp.Rec} {r:Sp.Rec} (h:RecsAt w b (.slice (some ⟨g,0,none⟩) rs.length cap) n rs) (hr:rs[i]?=some r):∃ a m,RecCell w g i n r a m:=by
 obtain⟨xs,hi,h1,h2,_⟩:=h.ex
 obtain⟨a,m,k1,k2⟩:=h2.get i r hr
 have hc:=World.ownsRow.cells h1 rfl
 have hx:∀ k v,k < 5→(recV r a m)[k]?=some v→w.cell? ⟨g,i * 5+k,none⟩=some v:=fun k v hk hv=>by
  have:=hc (i * 5+k) v (by rw [k1 k hk];exact hv)
  have e:(⟨g,0,none⟩:Addr).add (i * 5+k)=⟨g,i * 5+k,none⟩:=by simp [Addr.add];omega
  rw [e] at this;exact this
 exact⟨a,m,hx 0 _ (by omega) rfl,hx 1 _ (by omega) rfl,hx 2 _ (by omega) rfl,hx 3 _ (by omega) rfl,hx 4 _ (by omega) rfl,k2⟩
theorem toBytes (s:ByteArray) (w:World):∃ cap w',(convert 9 97 (.string s)).run Tryz.prog w=.ok (.slice (some ⟨w.heap.size,0,none⟩) s.size cap) w'∧s.size≤cap∧BytesAt w' w.heap.size 0 s.data.toList∧Upd [] w w'∧w.heap.size < w'.heap.size:=by
 refine⟨_,_,run_bytes_of_string w 9 97 5 s Tryz.underlying9 Tryz.underlying97 Tryz.underlying5,?_,?_,?_,?_⟩
 ·exact grownCap_ge _ _ _ _
 ·intro j x hj
  have hj':j < s.data.size:=by
   have:=(List.getElem?_eq_some_iff.mp hj).1
   rwa [Array.length_toList] at this
  have e:(w.drew.alloc (.cells (bytesRow s (grownCap w s.size 0 5)) 5 ((bytesRow s (grownCap w s.size 0 5)).size,(bytesRow s (grownCap w s.size 0 5)).size+1))).cell? ⟨w.heap.size,j,none⟩=(bytesRow s (grownCap w s.size 0 5))[j]?:=World.cell?_alloc_mark w.drew _ _ _ j
  rw [Nat.zero_add,e,bytesRow_at s _ j hj']
  have hx:s.data[j]=x:=by
   have:=(List.getElem?_eq_some_iff.mp hj).2
   rw [← this];simp
  rw [hx];rfl
 ·exact Upd.alloc (Upd.drew (Upd.refl _ _)) _
 ·show w.heap.size < (w.heap.push _).size
  simp
set_option maxRecDepth 8000 in
set_option maxHeartbeats 800000 in
theorem sOpen_at (p n:Nat) (w:World) (hn:n≤100):Calls Tryz.prog 17 #[.pointer (some ⟨p,0,none⟩),.int .i64 n] w fun e w'=>∃ s c g cap,e=.returned (.tuple #[.pointer (some ⟨s,0,none⟩),.int .i64 0])∧w.heap.size≤g∧g < c∧c < s∧s < w'.heap.size∧StAt w' s c∧CuSt w' c p n g 0 cap ⟨0,0,0,[]⟩∧Upd [] w w':=by
 have h1:¬ (n:Int) < 0:=by omega
 have h2:¬ (100:Int) < n:=by omega
 go_enter Tryz.func17,Tryz.ntmps17
 go_wp2_with fail
 refine (cuNew_any p n _ hn).mono ?_
 rintro e w1 ⟨rfl,c1,u1⟩
 have C1:Hid (CuAt w1 (w.heap.size+1) p n 0 0 0 (.slice (some ⟨w.heap.size,0,none⟩) 0 n) []):=c1
 have U1:Hid (Upd [] w w1):=u1
 clear c1 u1
 go_wp2_with fail
 go_ret2
 have hlt:w.heap.size+1 < w1.heap.size:=lt_of_heap C1.out.cell
 exact⟨w1.heap.size,w.heap.size+1,w.heap.size,n,rfl,Nat.le_refl _,by omega,hlt,by show w1.heap.size < (w1.heap.push _).size;simp,heap_new rfl,C1.out.blocks (Below.heap_alloc _ _ _ hlt) (fun k hk=>Below.heap_alloc _ _ _ (by simp [Value.ownBlock] at hk;omega)),U1.out.trans (by (repeat (first|exact Upd.refl _ _|refine Upd.drewN ?_|refine Upd.drew ?_|refine Upd.setCell ?_ (by simp) _|refine Upd.alloc ?_ _)))⟩
end Go.Proofs.YtcpfpnjkfahjcaaGreat
