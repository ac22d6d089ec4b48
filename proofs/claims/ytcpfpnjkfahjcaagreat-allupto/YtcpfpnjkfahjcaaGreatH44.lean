import Derived.Test.YtcpfpnjkfahjcaaGreatH43
set_option linter.unusedSimpArgs false
set_option linter.unusedVariables false
namespace Go.Proofs.YtcpfpnjkfahjcaaGreat
open Go.RowKit
def RsAt (w:World) (r q lim:Nat) (A:ByteArray) (told num:Nat) (cl:Bool):Prop:=w.heap[r]?=some (.cells #[.pointer (some ⟨q,0,none⟩),.int .i64 lim,.string A,.int .i64 told,.int .i64 num,.bool cl] 105 (0,0))
theorem RsAt.ty {w:World} {r q lim told num:Nat} {A:ByteArray} {cl:Bool} (h:RsAt w r q lim A told num cl):TyIs w r 105:=⟨_,h⟩
structure RsF (w:World) (r q lim:Nat) (A:ByteArray) (told num:Nat) (cl:Bool):Prop where
 c0:w.cell? ⟨r,0,none⟩=some (.pointer (some ⟨q,0,none⟩))
 c1:w.cell? ⟨r,1,none⟩=some (.int .i64 lim)
 c2:w.cell? ⟨r,2,none⟩=some (.string A)
 c3:w.cell? ⟨r,3,none⟩=some (.int .i64 told)
 c4:w.cell? ⟨r,4,none⟩=some (.int .i64 num)
 c5:w.cell? ⟨r,5,none⟩=some (.bool cl)
 fz:∀ o,w.frozen? ⟨r,o,none⟩=false
theorem RsAt.facts {w:World} {r q lim told num:Nat} {A:ByteArray} {cl:Bool} (h:RsAt w r q lim A told num cl):RsF w r q lim A told num cl:=by
 unfold RsAt at h
 refine⟨?_,?_,?_,?_,?_,?_,?_⟩<;>(try intro o)<;>simp [World.cell?,World.frozen?,h]
structure RrAt (w w1:World) (r q lim:Nat) (A:ByteArray) (told num len:Nat) (cl:Bool):Prop where
 rs:RsAt w1 r q lim A told (num+1) cl
 z0:w1.heap[w.heap.size]?=some (.cells #[.int .i64 0,.int .i64 0,.int .i64 0,.int .i64 0,.slice none 0 0] 94 (0,0))
 z1:w1.heap[w.heap.size+1]?=some (.cells #[.int .i64 num,.int .i64 told,.int .i64 len,.int .i64 0,.slice none 0 0] 94 (0,0))
 up:Upd [r] w w1
theorem RrAt.new {w:World} {r q lim told num len:Nat} {A:ByteArray} {cl:Bool} (R:RsAt w r q lim A told num cl):RrAt w (((w.setCell ⟨r,4,none⟩ (.int .i64 ((num:Int)+1))).alloc (.cells #[.int .i64 0,.int .i64 0,.int .i64 0,.int .i64 0,.slice none 0 0] 94)).alloc (.cells #[.int .i64 num,.int .i64 told,.int .i64 len,.int .i64 0,.slice none 0 0] 94)).drew r q lim A told num len cl:=by
 have hsz:(w.setCell ⟨r,4,none⟩ (.int .i64 ((num:Int)+1))).heap.size=w.heap.size:=by simp [World.setCell]
 have hr:=lt_of_heap R
 have e1:RsAt (w.setCell ⟨r,4,none⟩ (.int .i64 ((num:Int)+1))) r q lim A told (num+1) cl:=by
  have:=heap_set R 4 (.int .i64 ((num:Int)+1))
  exact this
 have u:Upd [r] w (w.setCell ⟨r,4,none⟩ (.int .i64 ((num:Int)+1))):=Upd.setCell (Upd.refl _ _) (by simp) _
 generalize w.setCell ⟨r,4,none⟩ (.int .i64 ((num:Int)+1))=w0 at *
 refine⟨?_,?_,?_,u.trans (Upd.drew (Upd.alloc (Upd.alloc (Upd.refl _ _) _) _))⟩
 ·exact (Below.heap_alloc _ _ _ (by show r < (w0.heap.push _).size;simp;omega)).trans ((Below.heap_alloc _ _ _ (by omega)).trans e1)
 ·rw [← hsz];exact (Below.heap_alloc _ _ _ (by show w0.heap.size < (w0.heap.push _).size;simp)).trans (heap_new rfl)
 ·rw [← hsz];exact heap_new (by show w0.heap.size+1=(w0.heap.push _).size;simp)
theorem rr3 (w4:World) (Z num told len:Nat) (K0:Int) (v:Value):Upd [Z] w4 (((((w4.setCell ⟨Z,0,none⟩ (.int .i64 num)).setCell ⟨Z,1,none⟩ (.int .i64 told)).setCell ⟨Z,2,none⟩ (.int .i64 len)).setCell ⟨Z,3,none⟩ (.int .i64 K0)).setCell ⟨Z,4,none⟩ v):=
 Upd.setCell (Upd.setCell (Upd.setCell (Upd.setCell (Upd.setCell (Upd.refl _ _) (by simp) _) (by simp) _) (by simp) _) (by simp) _) (by simp) _
theorem rr4 {w4:World} {Z num told len:Nat} {K0:Int} {v:Value} (h:w4.heap[Z]?=some (.cells #[.int .i64 0,.int .i64 0,.int .i64 0,.int .i64 0,.slice none 0 0] 94 (0,0))):(((((w4.setCell ⟨Z,0,none⟩ (.int .i64 num)).setCell ⟨Z,1,none⟩ (.int .i64 told)).setCell ⟨Z,2,none⟩ (.int .i64 len)).setCell ⟨Z,3,none⟩ (.int .i64 K0)).setCell ⟨Z,4,none⟩ v).heap[Z]?=some (.cells #[.int .i64 num,.int .i64 told,.int .i64 len,.int .i64 K0,v] 94 (0,0)):=by
 rw [heap_set (heap_set (heap_set (heap_set (heap_set h _ _) _ _) _ _) _ _) _ _]
 rfl
theorem rrEnd {w w2:World} {r q lim told num len Z o:Nat} {A:ByteArray} {cl:Bool} {K0:Int} {v v0:Value} {l:List Nat} (hZ:w.heap.size=Z) (hr:r < Z) (R:RsAt w2 r q lim A told (num+1) cl) (z0:w2.heap[Z]?=some (.cells #[.int .i64 0,.int .i64 0,.int .i64 0,.int .i64 0,.slice none 0 0] 94 (0,0))) (u:Upd [r] w w2) :
  ((((((w2.setCell ⟨Z+1,o,none⟩ v0).setCell ⟨Z,0,none⟩ (.int .i64 num)).setCell ⟨Z,1,none⟩ (.int .i64 told)).setCell ⟨Z,2,none⟩ (.int .i64 len)).setCell ⟨Z,3,none⟩ (.int .i64 K0)).setCell ⟨Z,4,none⟩ v).heap[Z]?=some (.cells #[.int .i64 num,.int .i64 told,.int .i64 len,.int .i64 K0,v] 94 (0,0))∧RsAt ((((((w2.setCell ⟨Z+1,o,none⟩ v0).setCell ⟨Z,0,none⟩ (.int .i64 num)).setCell ⟨Z,1,none⟩ (.int .i64 told)).setCell ⟨Z,2,none⟩ (.int .i64 len)).setCell ⟨Z,3,none⟩ (.int .i64 K0)).setCell ⟨Z,4,none⟩ v) r q lim A told (num+1) cl∧Upd [r] w ((((((w2.setCell ⟨Z+1,o,none⟩ v0).setCell ⟨Z,0,none⟩ (.int .i64 num)).setCell ⟨Z,1,none⟩ (.int .i64 told)).setCell ⟨Z,2,none⟩ (.int .i64 len)).setCell ⟨Z,3,none⟩ (.int .i64 K0)).setCell ⟨Z,4,none⟩ v)∧Upd [Z,Z+1] w2 ((((((w2.setCell ⟨Z+1,o,none⟩ v0).setCell ⟨Z,0,none⟩ (.int .i64 num)).setCell ⟨Z,1,none⟩ (.int .i64 told)).setCell ⟨Z,2,none⟩ (.int .i64 len)).setCell ⟨Z,3,none⟩ (.int .i64 K0)).setCell ⟨Z,4,none⟩ v):=by
 have u1:Upd [Z+1] w2 (w2.setCell ⟨Z+1,o,none⟩ v0):=Upd.setCell (Upd.refl _ _) (by simp) _
 have hlt:=lt_of_heap z0
 have z1:=(u1.block Z hlt (by simp)).trans z0
 revert u1 z1
 generalize w2.setCell ⟨Z+1,o,none⟩ v0=w3
 intro u1 z1
 have u2:=rr3 w3 Z num told len K0 v
 have e:=rr4 (num:=num) (told:=told) (len:=len) (K0:=K0) (v:=v) z1
 revert u2 e
 generalize (((((w3.setCell ⟨Z,0,none⟩ (.int .i64 num)).setCell ⟨Z,1,none⟩ (.int .i64 told)).setCell ⟨Z,2,none⟩ (.int .i64 len)).setCell ⟨Z,3,none⟩ (.int .i64 K0)).setCell ⟨Z,4,none⟩ v)=w4
 intro u2 e
 have uu:Upd [Z,Z+1] w2 w4:=(u1.mono (by simp)).trans (u2.mono (by simp))
 refine⟨e,(uu.block r (by omega) (by simp;omega)).trans R,?_,uu⟩
 exact⟨uu.os.trans u.os,uu.tape.trans u.tape,uu.output.trans u.output,Nat.le_trans u.size uu.size,fun k hk hn=>(uu.block k (Nat.lt_of_lt_of_le hk u.size) (by simp;omega)).trans (u.block k hk hn)⟩
theorem rsRes {w5:World} {Z num told len:Nat} {K0:Int} {v:Value} (E5:w5.heap[Z]?=some (.cells #[.int .i64 num,.int .i64 told,.int .i64 len,.int .i64 K0,v] 94 (0,0))):w5.cell? ⟨Z,0,none⟩=some (.int .i64 num)∧w5.cell? ⟨Z,1,none⟩=some (.int .i64 told)∧w5.cell? ⟨Z,2,none⟩=some (.int .i64 len)∧w5.cell? ⟨Z,3,none⟩=some (.int .i64 K0)∧w5.cell? ⟨Z,4,none⟩=some v:=by
 refine⟨?_,?_,?_,?_,?_⟩<;>(rw [World.cell?,E5];rfl)
set_option maxRecDepth 8000 in
set_option maxHeartbeats 1600000 in
theorem rRec_long (r q lim num told len e0:Nat) (A:ByteArray) (cl:Bool) (w:World) (hl:lim≤100) (hnum:num≤3000000) (hfr:told≤3000000) (hlen:len≤3000000) (he0:e0=told+len) (h:lim < len) (R:RsAt w r q lim A told num cl):Calls Tryz.prog 59 #[.pointer (some ⟨r,0,none⟩),.int .i64 e0] w fun e w'=>e=.returned (.agg #[.int .i64 num,.int .i64 told,.int .i64 len,.int .i64 2,.slice none 0 0])∧RsAt w' r q lim A told (num+1) cl∧Upd [r] w w':=by
 obtain⟨c0,c1,c2,c3,c4,c5,fz⟩:=R.facts
 have hr:r < w.heap.size:=lt_of_heap R
 have R1:Hid (RrAt w (((w.setCell ⟨r,4,none⟩ (.int .i64 ((num:Int)+1))).alloc (.cells #[.int .i64 0,.int .i64 0,.int .i64 0,.int .i64 0,.slice none 0 0] 94)).alloc (.cells #[.int .i64 num,.int .i64 told,.int .i64 len,.int .i64 0,.slice none 0 0] 94)).drew r q lim A told num len cl):=RrAt.new R
 clear R
 have h':(lim:Int) < len:=by omega
 have hsub:(e0:Int) - told=len:=by omega
 clear he0
 go_enter Tryz.func59,Tryz.ntmps59
 go_wp2_with fail
 go_region
 go_wp2_with fail
 revert R1
 generalize (((w.setCell ⟨r,4,none⟩ (.int .i64 ((num:Int)+1))).alloc (.cells #[.int .i64 0,.int .i64 0,.int .i64 0,.int .i64 0,.slice none 0 0] 94)).alloc (.cells #[.int .i64 num,.int .i64 told,.int .i64 len,.int .i64 0,.slice none 0 0] 94)).drew=w1
 intro R1
 clear c0 c1 c2 c3 c4 c5 fz
 obtain⟨c0,c1,c2,c3,c4,c5,fz⟩:=R1.out.rs.facts
 obtain⟨fr0,x0⟩:=recCells R1.out.z0
 obtain⟨fr1,x1⟩:=recCells R1.out.z1
 have y10:w1.cell? ⟨w.heap.size+1,0,none⟩=some (.int .i64 num):=x1 0
 have y11:w1.cell? ⟨w.heap.size+1,1,none⟩=some (.int .i64 told):=x1 1
 have y12:w1.cell? ⟨w.heap.size+1,2,none⟩=some (.int .i64 len):=x1 2
 have y13:w1.cell? ⟨w.heap.size+1,3,none⟩=some (.int .i64 0):=x1 3
 have y14:w1.cell? ⟨w.heap.size+1,4,none⟩=some (.slice none 0 0):=x1 4
 have y00:w1.cell? ⟨w.heap.size,0,none⟩=some (.int .i64 0):=x0 0
 have y01:w1.cell? ⟨w.heap.size,1,none⟩=some (.int .i64 0):=x0 1
 have y02:w1.cell? ⟨w.heap.size,2,none⟩=some (.int .i64 0):=x0 2
 have y03:w1.cell? ⟨w.heap.size,3,none⟩=some (.int .i64 0):=x0 3
 have y04:w1.cell? ⟨w.heap.size,4,none⟩=some (.slice none 0 0):=x0 4
 clear x0 x1
 have n0:r≠w.heap.size:=by omega
 have n1:r≠w.heap.size+1:=by omega
 have UZ:Hid (Upd [r] w w1):=R1.out.up
 generalize hZ:w.heap.size=Z at *
 go_quiet (fail)
 go_wp2_with fail
 have R2:RsAt (w1.drewN nq) r q lim A told (num+1) cl:=R1.out.rs
 have Z2:(w1.drewN nq).heap[Z]?=some (.cells #[.int .i64 0,.int .i64 0,.int .i64 0,.int .i64 0,.slice none 0 0] 94 (0,0)):=by have:=R1.out.z0;rw [hZ] at this;exact this
 have E:=rrEnd (o:=3) (v0:=.int .i64 2) (num:=num) (told:=told) (len:=len) (K0:=2) (v:=.slice none 0 0) (l:=[]) hZ (by omega) R2 Z2 (UZ.out.trans (drewN_upd _ _ _))
 revert E
 generalize (((((((w1.drewN nq).setCell ⟨Z+1,3,none⟩ (.int .i64 2)).setCell ⟨Z,0,none⟩ (.int .i64 num)).setCell ⟨Z,1,none⟩ (.int .i64 told)).setCell ⟨Z,2,none⟩ (.int .i64 len)).setCell ⟨Z,3,none⟩ (.int .i64 2)).setCell ⟨Z,4,none⟩ (.slice none 0 0))=w5
 rintro ⟨E1,E2,E3,E4⟩
 obtain⟨q0,q1,q2,q3,q4⟩:=rsRes E1
 refine bodyPost_ret (v:=.agg #[.int .i64 num,.int .i64 told,.int .i64 len,.int .i64 2,.slice none 0 0]) (by simp [results,Tryz.results59,go_sem,q0,q1,q2,q3,q4]) rfl ?_
 exact⟨rfl,E2,E3⟩
theorem rMatch_no (p n:Nat) (s:ByteArray) (t:Tr) (S:ByteArray) (w:World) (hS:S.size≤100) (R:RfPat w p s t n) (hr:wholeS t S=none):Calls Tryz.prog 9 #[.pointer (some ⟨p,0,none⟩),.string S] w fun e w'=>e=.returned (.tuple #[.slice none 0 0,.int .i64 0])∧Upd [] w w':=by
 refine (rMatch_any p n s t S w hS R).mono ?_
 rintro e w' ⟨u,k⟩
 rw [hr] at k
 exact⟨k,u⟩
theorem rMatch_yes (p n:Nat) (s:ByteArray) (t:Tr) (S:ByteArray) (w:World) (hS:S.size≤100) (R:RfPat w p s t n) {f:Nat→Int×Int} (hr:wholeS t S=some f):Calls Tryz.prog 9 #[.pointer (some ⟨p,0,none⟩),.string S] w fun e w'=>∃ g,w.heap.size≤g∧e=.returned (.tuple #[.slice (some ⟨g,0,none⟩) (n+1) (n+1),.int .i64 0])∧SpansAt w' g (n+1) f∧Upd [] w w':=by
 refine (rMatch_any p n s t S w hS R).mono ?_
 rintro e w' ⟨u,k⟩
 rw [hr] at k
 obtain⟨g,h1,h2,h3⟩:=k
 exact⟨g,h1,h2,h3,u⟩
set_option maxRecDepth 8000 in
set_option maxHeartbeats 1600000 in
theorem rRec_no (r q lim num told len e0 n:Nat) (s:ByteArray) (t:Tr) (A:ByteArray) (cl:Bool) (w:World) (hl:lim≤100) (hnum:num≤3000000) (hfr:told≤3000000) (hlen:len≤3000000) (he0:e0=told+len) (h:len≤lim) (hA:e0≤A.size) (R:RsAt w r q lim A told num cl) (P:RfPat w q s t n) (hw:wholeS t (A.extract told e0)=none):Calls Tryz.prog 59 #[.pointer (some ⟨r,0,none⟩),.int .i64 e0] w fun e w'=>e=.returned (.agg #[.int .i64 num,.int .i64 told,.int .i64 len,.int .i64 1,.slice none 0 0])∧RsAt w' r q lim A told (num+1) cl∧Upd [r] w w':=by
 obtain⟨c0,c1,c2,c3,c4,c5,fz⟩:=R.facts
 have hr:r < w.heap.size:=lt_of_heap R
 have R1:Hid (RrAt w (((w.setCell ⟨r,4,none⟩ (.int .i64 ((num:Int)+1))).alloc (.cells #[.int .i64 0,.int .i64 0,.int .i64 0,.int .i64 0,.slice none 0 0] 94)).alloc (.cells #[.int .i64 num,.int .i64 told,.int .i64 len,.int .i64 0,.slice none 0 0] 94)).drew r q lim A told num len cl):=RrAt.new R
 have HRS:Hid (RsAt w r q lim A told num cl):=R
 clear R
 have h':¬ (lim:Int) < len:=by omega
 have HP:Hid (RfPat w q s t n):=P
 have HW:Hid (wholeS t (A.extract told e0)=none):=hw
 have hz:(A.extract told e0).size≤100:=by rw [ByteArray.size_extract];omega
 have ht1:told≤e0:=by omega
 have hsub:(e0:Int) - told=len:=by omega
 clear he0 P hw
 go_enter Tryz.func59,Tryz.ntmps59
 go_wp2_with fail
 go_region
 go_wp2_with fail
 revert R1
 generalize (((w.setCell ⟨r,4,none⟩ (.int .i64 ((num:Int)+1))).alloc (.cells #[.int .i64 0,.int .i64 0,.int .i64 0,.int .i64 0,.slice none 0 0] 94)).alloc (.cells #[.int .i64 num,.int .i64 told,.int .i64 len,.int .i64 0,.slice none 0 0] 94)).drew=w1
 intro R1
 clear c0 c1 c2 c3 c4 c5 fz
 obtain⟨c0,c1,c2,c3,c4,c5,fz⟩:=R1.out.rs.facts
 obtain⟨fr0,x0⟩:=recCells R1.out.z0
 obtain⟨fr1,x1⟩:=recCells R1.out.z1
 have y10:w1.cell? ⟨w.heap.size+1,0,none⟩=some (.int .i64 num):=x1 0
 have y11:w1.cell? ⟨w.heap.size+1,1,none⟩=some (.int .i64 told):=x1 1
 have y12:w1.cell? ⟨w.heap.size+1,2,none⟩=some (.int .i64 len):=x1 2
 have y13:w1.cell? ⟨w.heap.size+1,3,none⟩=some (.int .i64 0):=x1 3
 have y14:w1.cell? ⟨w.heap.size+1,4,none⟩=some (.slice none 0 0):=x1 4
 have y00:w1.cell? ⟨w.heap.size,0,none⟩=some (.int .i64 0):=x0 0
 have y01:w1.cell? ⟨w.heap.size,1,none⟩=some (.int .i64 0):=x0 1
 have y02:w1.cell? ⟨w.heap.size,2,none⟩=some (.int .i64 0):=x0 2
 have y03:w1.cell? ⟨w.heap.size,3,none⟩=some (.int .i64 0):=x0 3
 have y04:w1.cell? ⟨w.heap.size,4,none⟩=some (.slice none 0 0):=x0 4
 clear x0 x1
 have n0:r≠w.heap.size:=by omega
 have n1:r≠w.heap.size+1:=by omega
 have UZ:Hid (Upd [r] w w1):=R1.out.up
 generalize hZ:w.heap.size=Z at *
 have P1:Hid (RfPat w1 q s t n):=HP.out.frame (Upd.pat UZ.out (LTy.cons ⟨_,HRS.out⟩ (T:=105) rfl (LTy.nil strT w)) strT_not)
 have R0:Hid (RsAt w1 r q lim A told (num+1) cl):=R1.out.rs
 have Z0:Hid (w1.heap[Z]?=some (.cells #[.int .i64 0,.int .i64 0,.int .i64 0,.int .i64 0,.slice none 0 0] 94 (0,0))):=by have:=R1.out.z0;rw [hZ] at this;exact this
 have Z1:Hid (w1.heap[Z+1]?=some (.cells #[.int .i64 num,.int .i64 told,.int .i64 len,.int .i64 0,.slice none 0 0] 94 (0,0))):=by have:=R1.out.z1;rw [hZ] at this;exact this
 go_quiet (fail)
 go_wp2_with fail
 have RD:Hid (RsAt (w1.drewN nq) r q lim A told (num+1) cl):=R0.out
 have ZD:Hid ((w1.drewN nq).heap[Z]?=some (.cells #[.int .i64 0,.int .i64 0,.int .i64 0,.int .i64 0,.slice none 0 0] 94 (0,0))):=Z0.out
 have ZE:Hid ((w1.drewN nq).heap[Z+1]?=some (.cells #[.int .i64 num,.int .i64 told,.int .i64 len,.int .i64 0,.slice none 0 0] 94 (0,0))):=Z1.out
 have PD:Hid (RfPat (w1.drewN nq).drew q s t n):=P1.out.upd (Upd.drew (drewN_upd _ _ _))
 have UD:Hid (Upd [r] w (w1.drewN nq)):=UZ.out.trans (drewN_upd _ _ _)
 clear c0 c1 c2 c3 c4 c5 fz fr0 fr1 y10 y11 y12 y13 y14 y00 y01 y02 y03 y04 R0 Z0 Z1 R1 P1 UZ
 generalize w1.drewN nq=wd at *
 clear w1 nq
 obtain⟨c0,c1,c2,c3,c4,c5,fz⟩:=RD.out.facts
 go_region_with (go_at_call 9;refine (rMatch_no q n s t (A.extract told e0) _ hz (by exact PD.out) HW.out).mono ?_;rintro e w2 ⟨rfl,u2⟩;have U2:Hid (Upd [] wd w2):=(Upd.drew (Upd.refl _ _)).trans u2;clear u2)
 all_goals
  have RE:Hid (RsAt w2 r q lim A told (num+1) cl):=(U2.out.block r (lt_of_heap RD.out) (by simp)).trans RD.out
  have ZF:Hid (w2.heap[Z]?=some (.cells #[.int .i64 0,.int .i64 0,.int .i64 0,.int .i64 0,.slice none 0 0] 94 (0,0))):=(U2.out.block Z (lt_of_heap ZD.out) (by simp)).trans ZD.out
  have ZG:Hid (w2.heap[Z+1]?=some (.cells #[.int .i64 num,.int .i64 told,.int .i64 len,.int .i64 0,.slice none 0 0] 94 (0,0))):=(U2.out.block (Z+1) (lt_of_heap ZE.out) (by simp)).trans ZE.out
  have UE:Hid (Upd [r] w w2):=UD.out.trans (U2.out.mono (by simp))
  clear c0 c1 c2 c3 c4 c5 fz
  obtain⟨c0,c1,c2,c3,c4,c5,fz⟩:=RE.out.facts
  obtain⟨fr0,x0⟩:=recCells ZF.out
  obtain⟨fr1,x1⟩:=recCells ZG.out
  have y10:w2.cell? ⟨Z+1,0,none⟩=some (.int .i64 num):=x1 0
  have y11:w2.cell? ⟨Z+1,1,none⟩=some (.int .i64 told):=x1 1
  have y12:w2.cell? ⟨Z+1,2,none⟩=some (.int .i64 len):=x1 2
  have y13:w2.cell? ⟨Z+1,3,none⟩=some (.int .i64 0):=x1 3
  have y14:w2.cell? ⟨Z+1,4,none⟩=some (.slice none 0 0):=x1 4
  have y00:w2.cell? ⟨Z,0,none⟩=some (.int .i64 0):=x0 0
  have y01:w2.cell? ⟨Z,1,none⟩=some (.int .i64 0):=x0 1
  have y02:w2.cell? ⟨Z,2,none⟩=some (.int .i64 0):=x0 2
  have y03:w2.cell? ⟨Z,3,none⟩=some (.int .i64 0):=x0 3
  have y04:w2.cell? ⟨Z,4,none⟩=some (.slice none 0 0):=x0 4
  clear x0 x1
  go_wp2_with fail
  have E:=rrEnd (o:=3) (v0:=.int .i64 1) (num:=num) (told:=told) (len:=len) (K0:=1) (v:=.slice none 0 0) (l:=[]) hZ (by omega) RE.out ZF.out UE.out
  revert E
  generalize ((((((w2.setCell ⟨Z+1,3,none⟩ (.int .i64 1)).setCell ⟨Z,0,none⟩ (.int .i64 num)).setCell ⟨Z,1,none⟩ (.int .i64 told)).setCell ⟨Z,2,none⟩ (.int .i64 len)).setCell ⟨Z,3,none⟩ (.int .i64 1)).setCell ⟨Z,4,none⟩ (.slice none 0 0))=w5
  rintro ⟨E1,E2,E3,E4⟩
  obtain⟨q0,q1,q2,q3,q4⟩:=rsRes E1
  refine bodyPost_ret (v:=.agg #[.int .i64 num,.int .i64 told,.int .i64 len,.int .i64 1,.slice none 0 0]) (by simp [results,Tryz.results59,go_sem,q0,q1,q2,q3,q4]) rfl ?_
  exact⟨rfl,E2,E3⟩
end Go.Proofs.YtcpfpnjkfahjcaaGreat
