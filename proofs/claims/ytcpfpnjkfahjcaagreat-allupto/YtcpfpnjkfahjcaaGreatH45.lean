import Derived.Test.YtcpfpnjkfahjcaaGreatH44
import Derived.Maps.AppendAt
import Derived.Test.YtcpfpnjkfahjcaaGreatH42
set_option linter.unusedSimpArgs false
set_option linter.unusedVariables false
namespace Go.Proofs.YtcpfpnjkfahjcaaGreat
open Go.RowKit
structure RvInv (wb:World) (g n a:Nat) (f:Nat→Int×Int) (gn:Nat) (vi:Value) (wr:World):Prop where
 st:∃ c:Nat,vi=.int .i64 c∧c+gn=n∧Upd [g] wb wr∧SpansAt wr g n (fun k=>if k < c then Sp.mv a (f k) else f k)
set_option maxRecDepth 8000 in
set_option maxHeartbeats 1600000 in
theorem rRec_yes (r q lim num told len e0 n:Nat) (s:ByteArray) (t:Tr) (A:ByteArray) (cl:Bool) (w:World) (hl:lim≤100) (hnum:num≤3000000) (hfr:told≤3000000) (hlen:len≤3000000) (he0:e0=told+len) (h:len≤lim) (hA:e0≤A.size) (R:RsAt w r q lim A told num cl) (P:RfPat w q s t n) (f:Nat→Int×Int) (hw:wholeS t (A.extract told e0)=some f):Calls Tryz.prog 59 #[.pointer (some ⟨r,0,none⟩),.int .i64 e0] w fun e w'=>∃ g,e=.returned (.agg #[.int .i64 num,.int .i64 told,.int .i64 len,.int .i64 0,.slice (some ⟨g,0,none⟩) (n+1) (n+1)])∧w.heap.size≤g∧SpansAt w' g (n+1) (fun k=>Sp.mv told (f k))∧RsAt w' r q lim A told (num+1) cl∧Upd [r] w w':=by
 obtain⟨c0,c1,c2,c3,c4,c5,fz⟩:=R.facts
 have hr:r < w.heap.size:=lt_of_heap R
 have R1:Hid (RrAt w (((w.setCell ⟨r,4,none⟩ (.int .i64 ((num:Int)+1))).alloc (.cells #[.int .i64 0,.int .i64 0,.int .i64 0,.int .i64 0,.slice none 0 0] 94)).alloc (.cells #[.int .i64 num,.int .i64 told,.int .i64 len,.int .i64 0,.slice none 0 0] 94)).drew r q lim A told num len cl):=RrAt.new R
 have HRS:Hid (RsAt w r q lim A told num cl):=R
 clear R
 have h':¬ (lim:Int) < len:=by omega
 have HP:Hid (RfPat w q s t n):=P
 have HW:Hid (wholeS t (A.extract told e0)=some f):=hw
 have HBD:Hid (∀ k,k < n+1→-1≤(f k).1∧(f k).1≤1000∧-1≤(f k).2∧(f k).2≤1000):=fun k _=>wholeS_bd (by rw [ByteArray.size_extract];omega) hw k
 have hn9:n≤9:=P.nine
 have hz:(A.extract told e0).size≤100:=by rw [ByteArray.size_extract];omega
 have ht1:told≤e0:=by omega
 have hsub:(e0:Int) - told=len:=by omega
 clear he0 P hw
 go_enter Tryz.func59,Tryz.ntmps59
 go_wp2_with fail
 go_region
 go_wp2_with fail
 revert R1
 generalize (((w.setCell ⟨r,4,none⟩ (.int .i64 ((num:Int)+1))).alloc (.cells #[.int .i64 0,.int .i64 0,.int .i64 0,.int .i64 0,.slice none 0 0] 94)).alloc (.cells #[.int .i64 num,.int .i64 told,.int .i64 len,.int .i64 0,.slice none 0 0] 94)).drew=w1
 intro R1
 clear c0 c1 c2 c3 c4 c5 fz
 obtain⟨c0,c1,c2,c3,c4,c5,fz⟩:=R1.out.rs.facts
 obtain⟨fr0,x0⟩:=recCells R1.out.z0
 obtain⟨fr1,x1⟩:=recCells R1.out.z1
 have y10:w1.cell? ⟨w.heap.size+1,0,none⟩=some (.int .i64 num):=x1 0
 have y11:w1.cell? ⟨w.heap.size+1,1,none⟩=some (.int .i64 told):=x1 1
 have y12:w1.cell? ⟨w.heap.size+1,2,none⟩=some (.int .i64 len):=x1 2
 have y13:w1.cell? ⟨w.heap.size+1,3,none⟩=some (.int .i64 0):=x1 3
 have y14:w1.cell? ⟨w.heap.size+1,4,none⟩=some (.slice none 0 0):=x1 4
 have y00:w1.cell? ⟨w.heap.size,0,none⟩=some (.int .i64 0):=x0 0
 have y01:w1.cell? ⟨w.heap.size,1,none⟩=some (.int .i64 0):=x0 1
 have y02:w1.cell? ⟨w.heap.size,2,none⟩=some (.int .i64 0):=x0 2
 have y03:w1.cell? ⟨w.heap.size,3,none⟩=some (.int .i64 0):=x0 3
 have y04:w1.cell? ⟨w.heap.size,4,none⟩=some (.slice none 0 0):=x0 4
 clear x0 x1
 have n0:r≠w.heap.size:=by omega
 have n1:r≠w.heap.size+1:=by omega
 have UZ:Hid (Upd [r] w w1):=R1.out.up
 generalize hZ:w.heap.size=Z at *
 have P1:Hid (RfPat w1 q s t n):=HP.out.frame (Upd.pat UZ.out (LTy.cons ⟨_,HRS.out⟩ (T:=105) rfl (LTy.nil strT w)) strT_not)
 have R0:Hid (RsAt w1 r q lim A told (num+1) cl):=R1.out.rs
 have Z0:Hid (w1.heap[Z]?=some (.cells #[.int .i64 0,.int .i64 0,.int .i64 0,.int .i64 0,.slice none 0 0] 94 (0,0))):=by have:=R1.out.z0;rw [hZ] at this;exact this
 have Z1:Hid (w1.heap[Z+1]?=some (.cells #[.int .i64 num,.int .i64 told,.int .i64 len,.int .i64 0,.slice none 0 0] 94 (0,0))):=by have:=R1.out.z1;rw [hZ] at this;exact this
 go_quiet (fail)
 go_wp2_with fail
 have RD:Hid (RsAt (w1.drewN nq) r q lim A told (num+1) cl):=R0.out
 have ZD:Hid ((w1.drewN nq).heap[Z]?=some (.cells #[.int .i64 0,.int .i64 0,.int .i64 0,.int .i64 0,.slice none 0 0] 94 (0,0))):=Z0.out
 have ZE:Hid ((w1.drewN nq).heap[Z+1]?=some (.cells #[.int .i64 num,.int .i64 told,.int .i64 len,.int .i64 0,.slice none 0 0] 94 (0,0))):=Z1.out
 have PD:Hid (RfPat (w1.drewN nq).drew q s t n):=P1.out.upd (Upd.drew (drewN_upd _ _ _))
 have UD:Hid (Upd [r] w (w1.drewN nq)):=UZ.out.trans (drewN_upd _ _ _)
 clear c0 c1 c2 c3 c4 c5 fz fr0 fr1 y10 y11 y12 y13 y14 y00 y01 y02 y03 y04 R0 Z0 Z1 R1 P1 UZ
 generalize w1.drewN nq=wd at *
 clear w1 nq
 obtain⟨c0,c1,c2,c3,c4,c5,fz⟩:=RD.out.facts
 go_region_with (go_at_call 9;refine (rMatch_yes q n s t (A.extract told e0) _ hz (by exact PD.out) HW.out).mono ?_;rintro e w2 ⟨g,hg,rfl,s2,u2⟩;have U2:Hid (Upd [] wd w2):=(Upd.drew (Upd.refl _ _)).trans u2;have HG:Hid (wd.heap.size≤g):=hg;have S2:Hid (SpansAt w2 g (n+1) f):=s2;clear u2 s2 hg)
 all_goals
  have RE:Hid (RsAt w2 r q lim A told (num+1) cl):=(U2.out.block r (lt_of_heap RD.out) (by simp)).trans RD.out
  have ZF:Hid (w2.heap[Z]?=some (.cells #[.int .i64 0,.int .i64 0,.int .i64 0,.int .i64 0,.slice none 0 0] 94 (0,0))):=(U2.out.block Z (lt_of_heap ZD.out) (by simp)).trans ZD.out
  have ZG:Hid (w2.heap[Z+1]?=some (.cells #[.int .i64 num,.int .i64 told,.int .i64 len,.int .i64 0,.slice none 0 0] 94 (0,0))):=(U2.out.block (Z+1) (lt_of_heap ZE.out) (by simp)).trans ZE.out
  have UE:Hid (Upd [r] w w2):=UD.out.trans (U2.out.mono (by simp))
  clear c0 c1 c2 c3 c4 c5 fz
  obtain⟨c0,c1,c2,c3,c4,c5,fz⟩:=RE.out.facts
  obtain⟨fr0,x0⟩:=recCells ZF.out
  obtain⟨fr1,x1⟩:=recCells ZG.out
  have y10:w2.cell? ⟨Z+1,0,none⟩=some (.int .i64 num):=x1 0
  have y11:w2.cell? ⟨Z+1,1,none⟩=some (.int .i64 told):=x1 1
  have y12:w2.cell? ⟨Z+1,2,none⟩=some (.int .i64 len):=x1 2
  have y13:w2.cell? ⟨Z+1,3,none⟩=some (.int .i64 0):=x1 3
  have y14:w2.cell? ⟨Z+1,4,none⟩=some (.slice none 0 0):=x1 4
  have y00:w2.cell? ⟨Z,0,none⟩=some (.int .i64 0):=x0 0
  have y01:w2.cell? ⟨Z,1,none⟩=some (.int .i64 0):=x0 1
  have y02:w2.cell? ⟨Z,2,none⟩=some (.int .i64 0):=x0 2
  have y03:w2.cell? ⟨Z,3,none⟩=some (.int .i64 0):=x0 3
  have y04:w2.cell? ⟨Z,4,none⟩=some (.slice none 0 0):=x0 4
  clear x0 x1
  have UZG:Hid (Z+1 < g):=by show _ < _;have:=lt_of_heap ZE.out;have:=HG.out;omega
  have ng1:g≠Z:=by have:=UZG.out;omega
  have ng2:g≠Z+1:=by have:=UZG.out;omega
  have ng3:g≠r:=by have:=UZG.out;omega
  have hne:¬ ((n:Int)+1=0):=by omega
  clear ZD ZE RD UD PD
  go_wp2_with fail
  generalize hn1:n+1=N at *
  have HW2:Hid (w2.cell? ⟨r,3,none⟩=some (.int .i64 told)):=c3
  have hrl:r < w2.heap.size:=lt_of_heap RE.out
  clear c0 c1 c2 c3 c4 c5 y10 y11 y12 y13 y14 y00 y01 y02 y03 y04
  go_loopg [8] N (fun gn vi wr=>RvInv w2 g N told f gn vi wr)
  case atStart=>exact⟨0,rfl,by omega,Upd.refl _ _,by have:=S2.out;simpa using this⟩
  case round=>
   obtain⟨c,e1,hc,hu,hs⟩:=hrel.st
   subst e1
   have HU:Hid (Upd [g] w2 wr):=hu
   have HS:Hid (SpansAt wr g N (fun k=>if k < c then Sp.mv told (f k) else f k)):=hs
   have c3:wr.cell? ⟨r,3,none⟩=some (.int .i64 told):=(cell_eq (hu.block r hrl (by simpa using ng3.symm)) _).trans HW2.out
   by_cases hlt:c < N
   ·have hlt':(c:Int) < N:=by omega
    obtain⟨gm,hgm⟩:∃ k,gk=k+1:=⟨gk - 1,by omega⟩
    obtain⟨d0,d1,fzg⟩:=hs.facts
    have e0:=d0 c hlt
    have e1:=d1 c hlt
    simp only [Nat.lt_irrefl,if_false] at e0 e1
    have hgl:=lt_of_heap hs
    obtain⟨b1,b2,b3,b4⟩:=HBD.out c hlt
    have HM:Hid (Sp.mv told (f c)=if 0≤(f c).1 then ((f c).1+told,(f c).2+told) else f c):=rfl
    clear hu hs d0 d1
    by_cases hx:0≤(f c).1
    ·have RL:Hid (SpansAt ((wr.setCell ⟨g,c * 2,none⟩ (.int .i64 ((f c).1+told))).setCell ⟨g,c * 2+1,none⟩ (.int .i64 ((f c).2+told))) g N (fun k=>if k < c+1 then Sp.mv told (f k) else f k)):=by
      have:=HS.out.put c hlt ((f c).1+told) ((f c).2+told)
      rw [mv_step (by rw [HM.out,if_pos hx])] at this
      exact this
     generalize (f c).1=X at *
     generalize (f c).2=Y at *
     go_wp2_with fail
     go_region
     all_goals go_wp2_with fail
     all_goals go_roundg gm
     all_goals first
      | omega
      | exact⟨c+1,rfl,by omega,HU.out.trans (by (repeat (first|exact Upd.refl _ _|refine Upd.drewN ?_|refine Upd.drew ?_|refine Upd.setCell ?_ (by simp) _|refine Upd.alloc ?_ _))),RL.out⟩
    ·have RL:Hid (SpansAt wr g N (fun k=>if k < c+1 then Sp.mv told (f k) else f k)):=by
      refine HS.out.congr (fun k hk=>?_)
      by_cases h2:k < c
      ·rw [if_pos h2,if_pos (by omega)]
      ·rw [if_neg h2]
       by_cases h3:k=c
       ·subst h3;rw [if_pos (by omega),HM.out,if_neg hx]
       ·rw [if_neg (by omega)]
     generalize (f c).1=X at *
     generalize (f c).2=Y at *
     go_wp2_with fail
     go_roundg gm
     case measure=>omega
     case rel=>exact⟨c+1,rfl,by omega,HU.out,RL.out⟩
   ·have hlt':¬ (c:Int) < N:=by omega
    have HSF:Hid (SpansAt wr g N (fun k=>Sp.mv told (f k))):=hs.congr (fun k hk=>by rw [if_pos (by omega)])
    have RF:Hid (RsAt wr r q lim A told (num+1) cl):=(hu.block r hrl (by simpa using ng3.symm)).trans RE.out
    have ZH:Hid (wr.heap[Z]?=some (.cells #[.int .i64 0,.int .i64 0,.int .i64 0,.int .i64 0,.slice none 0 0] 94 (0,0))):=(hu.block Z (lt_of_heap ZF.out) (by simpa using ng1.symm)).trans ZF.out
    have ZI:Hid (wr.heap[Z+1]?=some (.cells #[.int .i64 num,.int .i64 told,.int .i64 len,.int .i64 0,.slice none 0 0] 94 (0,0))):=(hu.block (Z+1) (lt_of_heap ZG.out) (by simpa using ng2.symm)).trans ZG.out
    have UF:Hid (Upd [r] w wr):=by
     have h1:=UE.out
     have h2:=UZG.out
     exact⟨hu.os.trans h1.os,hu.tape.trans h1.tape,hu.output.trans h1.output,Nat.le_trans h1.size hu.size,fun k hk hn=>(hu.block k (Nat.lt_of_lt_of_le hk h1.size) (by simp;omega)).trans (h1.block k hk hn)⟩
    clear hu hs c3 hrel
    obtain⟨c0,c1,c2,c3,c4,c5,fz3⟩:=RF.out.facts
    obtain⟨fr0,x0⟩:=recCells ZH.out
    obtain⟨fr1,x1⟩:=recCells ZI.out
    have y10:wr.cell? ⟨Z+1,0,none⟩=some (.int .i64 num):=x1 0
    have y11:wr.cell? ⟨Z+1,1,none⟩=some (.int .i64 told):=x1 1
    have y12:wr.cell? ⟨Z+1,2,none⟩=some (.int .i64 len):=x1 2
    have y13:wr.cell? ⟨Z+1,3,none⟩=some (.int .i64 0):=x1 3
    have y14:wr.cell? ⟨Z+1,4,none⟩=some (.slice none 0 0):=x1 4
    have y00:wr.cell? ⟨Z,0,none⟩=some (.int .i64 0):=x0 0
    have y01:wr.cell? ⟨Z,1,none⟩=some (.int .i64 0):=x0 1
    have y02:wr.cell? ⟨Z,2,none⟩=some (.int .i64 0):=x0 2
    have y03:wr.cell? ⟨Z,3,none⟩=some (.int .i64 0):=x0 3
    have y04:wr.cell? ⟨Z,4,none⟩=some (.slice none 0 0):=x0 4
    clear x0 x1
    go_wp2_with fail
    have E:=rrEnd (o:=4) (v0:=.slice (some ⟨g,0,none⟩) N N) (num:=num) (told:=told) (len:=len) (K0:=0) (v:=.slice (some ⟨g,0,none⟩) N N) (l:=[]) hZ (by omega) RF.out ZH.out UF.out
    revert E
    generalize ((((((wr.setCell ⟨Z+1,4,none⟩ (.slice (some ⟨g,0,none⟩) N N)).setCell ⟨Z,0,none⟩ (.int .i64 num)).setCell ⟨Z,1,none⟩ (.int .i64 told)).setCell ⟨Z,2,none⟩ (.int .i64 len)).setCell ⟨Z,3,none⟩ (.int .i64 0)).setCell ⟨Z,4,none⟩ (.slice (some ⟨g,0,none⟩) N N))=w5
    rintro ⟨E1,E2,E3,E4⟩
    obtain⟨q0,q1,q2,q3,q4⟩:=rsRes E1
    refine bodyPost_ret (v:=.agg #[.int .i64 num,.int .i64 told,.int .i64 len,.int .i64 0,.slice (some ⟨g,0,none⟩) N N]) (by simp [results,Tryz.results59,go_sem,q0,q1,q2,q3,q4]) rfl ?_
    exact⟨g,rfl,by have:=UZG.out;omega,(E4.block g (lt_of_heap HSF.out) (by simp;exact⟨ng1,ng2⟩)).trans HSF.out,E2,E3⟩
theorem str_extract (S:ByteArray) (a b:Nat):str ((S.data.toList.drop a).take (b - a))=S.extract a b:=by
 apply ByteArray.ext
 rw [ByteArray.data_extract]
 apply Array.toList_inj.mp
 show ((S.data.toList.drop a).take (b - a))=_
 rw [Array.toList_extract]
theorem StrAt.more {lim i:Nat} {S M:List UInt8} {cu:Sp.Cu} (h:Sp.StrAt lim S i cu) (hi:i≤S.length):Sp.StrAt lim (S++M) i cu:=by
 refine⟨h.sum,?_⟩
 have:=h.sum
 rw [h.held,List.drop_append_of_le_length (by omega),List.take_append_of_le_length (by rw [List.length_drop];omega)]
theorem apart_at {S:ByteArray} {t:Tr} {lim i:Nat} {cu:Sp.Cu} (h:Sp.StrAt lim S.data.toList i cu):apartS t lim cu.frm cu.len cu.held=apartS t lim cu.frm cu.len (S.extract cu.frm (cu.frm+cu.len)).data.toList:=by
 unfold apartS
 split
 ·rfl
 ·rename_i hl
  have e:str cu.held=str (S.extract cu.frm (cu.frm+cu.len)).data.toList:=by
   rw [h.held,List.take_of_length_le (by simp;omega)]
   have:=str_extract S cu.frm (cu.frm+cu.len)
   rw [show cu.frm+cu.len - cu.frm=cu.len by omega] at this
   rw [Sp.str_of,this]
  rw [e]
theorem rRec_any (r q lim num told len e0 n:Nat) (s:ByteArray) (t:Tr) (A:ByteArray) (cl:Bool) (w:World) (hl:lim≤100) (hnum:num≤3000000) (hfr:told≤3000000) (hlen:len≤3000000) (he0:e0=told+len) (hA:e0≤A.size) (R:RsAt w r q lim A told num cl) (P:RfPat w q s t n):Calls Tryz.prog 59 #[.pointer (some ⟨r,0,none⟩),.int .i64 e0] w fun e w'=>∃ a m,e=.returned (.agg #[.int .i64 num,.int .i64 told,.int .i64 len,.int .i64 (apartS t lim told len (A.extract told e0).data.toList).1,.slice a m m])∧RecSp w' a m (n+1) (apartS t lim told len (A.extract told e0).data.toList).2∧(∀ q o s,a=some ⟨q,o,s⟩→w.heap.size≤q)∧RsAt w' r q lim A told (num+1) cl∧Upd [r] w w':=by
 by_cases h:lim < len
 ·have e:apartS t lim told len (A.extract told e0).data.toList=(2,none):=by unfold apartS;rw [if_pos h]
  rw [e]
  refine (rRec_long r q lim num told len e0 A cl w hl hnum hfr hlen he0 h R).mono ?_
  rintro e w' ⟨rfl,h1,h2⟩
  exact⟨none,0,rfl,⟨rfl,rfl⟩,fun q o s e=>(by cases e),h1,h2⟩
 ·cases hw:wholeS t (A.extract told e0) with
  | none=>
   have e:apartS t lim told len (A.extract told e0).data.toList=(1,none):=by unfold apartS;rw [if_neg h,Sp.str_of,hw]
   rw [e]
   refine (rRec_no r q lim num told len e0 n s t A cl w hl hnum hfr hlen he0 (by omega) hA R P hw).mono ?_
   rintro e w' ⟨rfl,h1,h2⟩
   exact⟨none,0,rfl,⟨rfl,rfl⟩,fun q o s e=>(by cases e),h1,h2⟩
  | some f=>
   have e:apartS t lim told len (A.extract told e0).data.toList=(0,some fun k=>Sp.mv told (f k)):=by unfold apartS;rw [if_neg h,Sp.str_of,hw]
   rw [e]
   refine (rRec_yes r q lim num told len e0 n s t A cl w hl hnum hfr hlen he0 (by omega) hA R P f hw).mono ?_
   rintro e w' ⟨g,rfl,hg,hs,h1,h2⟩
   exact⟨some ⟨g,0,none⟩,n+1,rfl,⟨g,rfl,rfl,hs⟩,fun q o s e=>(by cases e;exact hg),h1,h2⟩
structure RfInv (w:World) (r q lim:Nat) (t:Tr) (n:Nat) (A:ByteArray) (K:List UInt8) (cu:Sp.Cu) (gn:Nat) (vo vi:Value) (wr:World):Prop where
 st:∃ j:Nat,vi=.int .i64 (A.size+j:Nat)∧j+gn=K.length∧RsAt wr r q lim (A++str K) (Sp.feedC lim cu (K.take j)).frm (Sp.feedC lim cu (K.take j)).num false∧RecsAt wr w.heap.size vo (n+1) (Sp.feedR (apartS t lim) lim cu (K.take j))∧Upd [r] w wr∧Sp.StrAt lim (A++str K).data.toList (A.size+j) (Sp.feedC lim cu (K.take j))
theorem strK_list (A:ByteArray) (K:List UInt8):(A++str K).data.toList=A.data.toList++K:=by
 rw [ByteArray.data_append,Array.toList_append];rfl
theorem strK_at (A:ByteArray) (K:List UInt8) (j:Nat) (x:UInt8) (h:K[j]?=some x):(A++str K).data.toList[A.size+j]?=some x:=by
 rw [strK_list,List.getElem?_append_right (by rw [Array.length_toList];exact Nat.le_add_right _ _)]
 rw [Array.length_toList,show A.size+j - A.data.size=j from Nat.add_sub_cancel_left _ _];exact h
theorem take_next {K:List UInt8} {j:Nat} {x:UInt8} (h:K[j]?=some x):K.take (j+1)=K.take j++[x]:=by
 rw [List.take_add_one,h];rfl
theorem feedC_next {K:List UInt8} {j lim:Nat} {cu:Sp.Cu} {x:UInt8} (h:K[j]?=some x):Sp.feedC lim cu (K.take (j+1))=if x=10 then Sp.nextC (Sp.feedC lim cu (K.take j)) else Sp.takeC lim (Sp.feedC lim cu (K.take j)) [x]:=by
 rw [take_next h,Sp.feedC_append,Sp.feedC]
 split<;>rfl
theorem feedR_next {K:List UInt8} {j lim:Nat} {cu:Sp.Cu} {x:UInt8} {ap:Sp.Ap} (h:K[j]?=some x):Sp.feedR ap lim cu (K.take (j+1))=Sp.feedR ap lim cu (K.take j)++if x=10 then [Sp.overR ap (Sp.feedC lim cu (K.take j))] else []:=by
 rw [take_next h,Sp.feedR_append,Sp.feedR]
 split<;>rfl
theorem feed_num {ap:Sp.Ap} {lim j:Nat} {cu:Sp.Cu} {K:List UInt8}:(Sp.feedC lim cu (K.take j)).num≤cu.num+j:=by
 rw [Sp.feedC_num lim ap]
 have:=Sp.feedR_length lim ap (K.take j) cu
 have h2:(K.take j).length≤j:=by rw [List.length_take];omega
 omega
theorem rfStep {w wr w2 w5:World} {r q lim n hi num frm len m2 I:Nat} {AA:ByteArray} {rj:List Sp.Rec} {xs:List Value} {K0:Int} {AP2:Option (Nat→Int×Int)} {a:Option Addr} {u v':Value} {o1 o2:Obj}
  (hx:RecsL w2 (n+1) hi w.heap.size rj xs) (hhi:hi≤wr.heap.size) (hs:RecSp w2 a m2 (n+1) AP2) (hq:∀ q o s,a=some ⟨q,o,s⟩→wr.heap.size≤q) (R:RsAt w2 r q lim AA frm (num+1) false) (u1:Upd [r] w wr) (u2:Upd [r] wr w2) (hA:((w2.alloc o1).alloc o2).ownsRow w.heap.size 94 5 u rj.length xs) (hty:∀ k,u.ownBlock=some k→TyIs w2 k 94)
  (own:w5.ownsRow w.heap.size 94 5 v' (rj.length+1) (xs++[.int .i64 num,.int .i64 frm,.int .i64 len,.int .i64 K0,.slice a m2 m2])) (hgr:((w2.alloc o1).alloc o2).grownBy w5 u.ownBlock) :
  RsAt w5 r q lim AA frm (num+1) false∧RsAt (w5.setCell ⟨r,3,none⟩ (.int .i64 ((I:Int)+1))) r q lim AA (I+1) (num+1) false∧RecsAt (w5.setCell ⟨r,3,none⟩ (.int .i64 ((I:Int)+1))) w.heap.size v' (n+1) (rj++[⟨num,frm,len,K0,AP2⟩])∧Upd [r] w (w5.setCell ⟨r,3,none⟩ (.int .i64 ((I:Int)+1))):=by
 have ua:Upd [] w2 ((w2.alloc o1).alloc o2):=Upd.alloc (Upd.alloc (Upd.refl _ _) _) _
 have ug:=Upd.of_grown hgr
 have hnr:r∉u.ownBlock.toList:=fun hm=>TyIs.ne (hty r (by simpa using hm)) (RsAt.ty R) (by decide) rfl
 have hr4:=(ua.block r (lt_of_heap R) (by simp)).trans R
 have R5:RsAt w5 r q lim AA frm (num+1) false:=(ug.block r (lt_of_heap hr4) hnr).trans hr4
 have us:Upd [r] w5 (w5.setCell ⟨r,3,none⟩ (.int .i64 ((I:Int)+1))):=Upd.setCell (Upd.refl _ _) (by simp) _
 have U4:Upd [r] w ((w2.alloc o1).alloc o2):=(u1.trans u2).trans (ua.mono (by simp))
 have U5:Upd [r] w w5:=grown_ups (Nat.le_refl _) U4 hA hgr
 refine⟨R5,heap_set R5 3 _,⟨_,w2.heap.size,ownsRow_same (by rw [List.length_append];exact own) (fun k hk hlt=>us.block k hlt (fun hm=>?_)),?_,Nat.le_trans ua.size (Nat.le_trans ug.size us.size)⟩,U5.trans us⟩
 ·have e:k=r:=by simpa using hm
  subst e
  exact TyIs.ne (own_tyP own hk) (RsAt.ty R5) (by decide) rfl
 ·have h1:=hx.append (RecsL.one (r:=⟨num,frm,len,K0,AP2⟩) hs (Nat.le_trans hhi u2.size) (fun q o s e=>Nat.le_trans hhi (hq q o s e)))
  have h2:=(h1.keep ua (by simp)).keep ug (fun k hk=>((hty k (by simpa using hk)).upd (B:=fun _=>false) ua (LTy.nil _ _) rfl).notSp (by decide))
  exact h2.keep us (fun k hk=>by
   have e:k=r:=by simpa using hk
   subst e;exact (RsAt.ty R5).notSp (by decide))
set_option maxRecDepth 8000 in
set_option maxHeartbeats 1600000 in
theorem rFeed_any (r q lim n b off m cp:Nat) (A:ByteArray) (cu:Sp.Cu) (s:ByteArray) (t:Tr) (K:List UInt8) (w:World) (hl:lim≤100) (hsz:A.size+m≤1100000) (hnum:cu.num≤A.size) (hK:K.length=m) (B:BytesAt w b off K) (R:RsAt w r q lim A cu.frm cu.num false) (S:Sp.StrAt lim A.data.toList A.size cu) (P:RfPat w q s t n):Calls Tryz.prog 57 #[.pointer (some ⟨r,0,none⟩),.slice (some ⟨b,off,none⟩) m cp] w fun e w'=>∃ v,e=.returned (.tuple #[v,.int .i64 0])∧RecsAt w' w.heap.size v (n+1) (Sp.feedR (apartS t lim) lim cu K)∧RsAt w' r q lim (A++str K) (Sp.feedC lim cu K).frm (Sp.feedC lim cu K).num false∧Upd [r] w w':=by
 obtain⟨c0,c1,c2,c3,c4,c5,fz⟩:=R.facts
 have hr:r < w.heap.size:=lt_of_heap R
 have HR:Hid (RsAt w r q lim A cu.frm cu.num false):=R
 have HB:Hid (BytesAt w b off K):=B
 have HK:Hid (K.length=m):=hK
 have HP:Hid (RfPat w q s t n):=P
 have HS:Hid (Sp.StrAt lim A.data.toList A.size cu):=S
 have hcv:∀ w2:World,w2.heap=w.heap→(convert 97 9 (.slice (some ⟨b,off,none⟩) m cp)).run Tryz.prog w2=.ok (.string (str K)) w2:=fun w2 hw=>by
  have e2:strOfNums (K.map fun x=>(x.toNat:Int))=str K:=by
   show str ((K.map fun x=>(x.toNat:Int)).map Sp.u8)=str K
   rw [List.map_map]
   have:K.map (Sp.u8 ∘ fun x=>(x.toNat:Int))=K.map id:=List.map_congr_left (fun x _=>ofNat_toNat x)
   rw [this,List.map_id]
  have:=run_convert_bytes_arg (P:=Tryz.prog) w2 97 5 Tryz.underlying97 Tryz.underlying5 b off m cp (K.map fun x=>(x.toNat:Int)) (by simp [hK]) (fun i hi=>by
   have hi':i < K.length:=by omega
   have:=B i K[i] (List.getElem?_eq_getElem hi')
   have e:w2.cell? ⟨b,off+i,none⟩=w.cell? ⟨b,off+i,none⟩:=by simp [World.cell?,hw]
   rw [e,this];simp [List.getElem?_eq_getElem hi',byteV]) 9 Tryz.underlying9
  rw [this,e2]
 have hadd:∀ w2:World,(Op.stringOp .add A (str K)).run Tryz.prog w2=.ok (.string (A++str K)) w2:=fun w2=>run_string_add (P:=Tryz.prog) (w:=w2) A (str K) (by omega) (by rw [Sp.str_size];omega)
 clear R B hK P S
 go_enter Tryz.func57,Tryz.ntmps57
 go_wp2_with fail
 have hcv1:=hcv w rfl
 have hcv2:=hcv w.drew rfl
 clear hcv
 go_region
 all_goals go_wp2_with fail
 have START:Hid (RfInv w r q lim t n A K cu m (.slice none 0 0) (.int .i64 A.size) (w.setCell ⟨r,2,none⟩ (.string (A++str K))).drew):=by
  refine⟨0,rfl,by have:=HK.out;omega,?_,?_,Upd.drew (Upd.setCell (Upd.refl _ _) (by simp) _),?_⟩
  ·exact heap_set HR.out 2 _
  ·exact RecsAt.nil _ _ _ (by show _≤(w.setCell _ _).heap.size;simp [World.setCell])
  ·rw [strK_list];exact StrAt.more HS.out (by rw [Array.length_toList];exact Nat.le_refl _)
 clear c0 c1 c2 c3 c4 c5 fz hcv1 hcv2 hadd
 obtain⟨NA,hNA⟩:∃ x,x=A.size+m:=⟨_,rfl⟩
 have HNA:Hid (NA=A.size+m):=hNA
 have hsA:(A++str K).size=NA:=by rw [ByteArray.size_append,Sp.str_size,HK.out,hNA]
 have hNb:NA≤1100000:=by omega
 clear hNA
 have HPK:Hid (∀ w2,Upd [r] w w2→RfPat w2 q s t n):=fun w2 u=>HP.out.frame (Upd.pat u (LTy.cons ⟨_,HR.out⟩ (T:=105) rfl (LTy.nil strT w)) strT_not)
 generalize hAA:A++str K=AA at *
 have HAA:Hid (A++str K=AA):=hAA
 go_loopg [7,8] m (fun gn vo vi wr=>RfInv w r q lim t n A K cu gn vo vi wr)
 case atStart=>exact START.out
 case round=>
  obtain⟨j,hvi,hjg,hR,hRc,hU,hSt⟩:=hrel.st
  subst hvi
  rw [HK.out] at hjg
  rw [hAA] at hR hSt
  obtain⟨c0,c1,c2,c3,c4,c5,fz⟩:=hR.facts
  have GR:Hid (RsAt wr r q lim AA (Sp.feedC lim cu (K.take j)).frm (Sp.feedC lim cu (K.take j)).num false):=hR
  have GC:Hid (RecsAt wr w.heap.size u7 (n+1) (Sp.feedR (apartS t lim) lim cu (K.take j))):=hRc
  have GU:Hid (Upd [r] w wr):=hU
  have GS:Hid (Sp.StrAt lim AA.data.toList (A.size+j) (Sp.feedC lim cu (K.take j))):=hSt
  clear hR hRc hU hSt hrel
  by_cases hlt:j < m
  ·obtain⟨gm,hgm⟩:∃ k,gk=k+1:=⟨gk - 1,by omega⟩
   have hlt':((A.size+j:Nat):Int) < NA:=by have:=HNA.out;omega
   obtain⟨I,hI⟩:∃ I,I=A.size+j:=⟨_,rfl⟩
   rw [← hI] at hlt' ⊢
   have HI:Hid (I=A.size+j):=hI
   clear hI
   have hIb:I < AA.size:=by rw [hsA];omega
   obtain⟨x,hx⟩:∃ x,K[j]?=some x:=⟨_,List.getElem?_eq_getElem (by rw [HK.out];exact hlt)⟩
   have hxe:AA[I]=x:=by
    have h1:AA.data.toList[I]?=some (AA[I]):=by rw [Array.getElem?_toList];exact Array.getElem?_eq_getElem _
    have h2:=strK_at A K j x hx
    rw [HAA.out,← HI.out,h1] at h2
    injection h2
   have HX:Hid (K[j]?=some x):=hx
   clear hx
   have HXE:Hid (AA[I]=x):=hxe
   clear hxe
   go_wp2_with fail
   ·have hq10:((AA[I].toNat:Int) == 10)=true:=by assumption
    have h10:x=10:=by
     have h:=HXE.out
     rw [h] at hq10
     have h2:(x.toNat:Int)=10:=by simpa using hq10
     apply UInt8.toNat_inj.mp
     show x.toNat=10
     omega
    clear hq10
    have hfr:(Sp.feedC lim cu (K.take j)).frm+(Sp.feedC lim cu (K.take j)).len=I:=by rw [GS.out.sum,HI.out]
    have hnm:=feed_num (ap:=apartS t lim) (lim:=lim) (j:=j) (cu:=cu) (K:=K)
    obtain⟨cj,hcj⟩:∃ c,c=Sp.feedC lim cu (K.take j):=⟨_,rfl⟩
    have HCJ:Hid (cj=Sp.feedC lim cu (K.take j)):=hcj
    obtain⟨rj,hrj⟩:∃ c,c=Sp.feedR (apartS t lim) lim cu (K.take j):=⟨_,rfl⟩
    have HRJ:Hid (rj=Sp.feedR (apartS t lim) lim cu (K.take j)):=hrj
    have hrl:rj.length≤m:=by rw [hrj];exact Nat.le_trans (Sp.feedR_length _ _ _ _) (by rw [List.length_take];omega)
    rw [← hcj] at GR GS hfr hnm
    rw [← hrj] at GC
    clear hcj hrj
    refine (rRec_any r q lim cj.num cj.frm cj.len I n s t AA false _ hl (by omega) (by omega) (by omega) hfr.symm (by omega) GR.out (HPK.out _ GU.out)).mono ?_
    rintro e w2 ⟨a,m2,he,hs,hq,R2,u2⟩
    obtain⟨AP,hAP⟩:∃ x,x=apartS t lim cj.frm cj.len (AA.extract cj.frm I).data.toList:=⟨_,rfl⟩
    rw [← hAP] at he hs
    have HOV:Hid (Sp.overR (apartS t lim) cj=⟨cj.num,cj.frm,cj.len,AP.1,AP.2⟩):=by
     show Sp.Rec.mk _ _ _ _ _=_
     rw [apart_at (S:=AA) GS.out,hfr,← hAP]
    have HS2:Hid (RecSp w2 a m2 (n+1) AP.2):=hs
    have HQ2:Hid (∀ q o s,a=some ⟨q,o,s⟩→wr.heap.size≤q):=hq
    have HR2:Hid (RsAt w2 r q lim AA cj.frm (cj.num+1) false):=R2
    have HU2:Hid (Upd [r] wr w2):=u2
    obtain⟨K0,hK0⟩:∃ x,x=AP.1:=⟨_,rfl⟩
    have HK0:Hid (K0=AP.1):=hK0
    rw [← hK0] at he
    subst he
    obtain⟨xs,hi,p1,q1,hhi⟩:=GC.out.ex
    have hty:∀ k,u7.ownBlock=some k→k∉[r]:=fun k hk hm=>by
     have e:k=r:=by simpa using hm
     subst e;exact TyIs.ne (GC.out.ty hk) (RsAt.ty GR.out) (by decide) rfl
    have o1:w2.ownsRow w.heap.size 94 5 u7 rj.length xs:=ownsRow_same p1 (fun k hk hlt=>u2.block k hlt (hty k hk))
    have HX2:Hid (RecsL w2 (n+1) hi w.heap.size rj xs):=q1.keep u2 (fun k hk=>by simp at hk;subst hk;exact (RsAt.ty GR.out).notSp (by decide))
    have HHI:Hid (hi≤wr.heap.size):=hhi
    have hsz2:w.heap.size≤w2.heap.size:=Nat.le_trans GU.out.size u2.size
    have HA:Hid (((w2.alloc (.cells #[.int .i64 cj.num,.int .i64 cj.frm,.int .i64 cj.len,.int .i64 K0,.slice a m2 m2] 94)).alloc (.cells #[.int .i64 cj.num,.int .i64 cj.frm,.int .i64 cj.len,.int .i64 K0,.slice a m2 m2] 94)).ownsRow w.heap.size 94 5 u7 rj.length xs):=ownsRow_same o1 (fun k hk hlt=>(Below.heap_alloc _ _ _ (by show k < (w2.heap.push _).size;simp;omega)).trans (Below.heap_alloc _ _ _ hlt))
    have HTY:Hid (∀ k,u7.ownBlock=some k→TyIs w2 k 94):=fun k hk=>own_tyP o1 hk
    obtain⟨it,hi1,hi2,hi3,hi4⟩:=pInfoRec
    have HI5:Hid (Tryz.prog.info? 94=some it∧it.zero=some (.agg #[.int .i64 0,.int .i64 0,.int .i64 0,.int .i64 0,.slice none 0 0])∧it.size=5∧it.bytes=56):=⟨hi1,hi2,hi3,hi4⟩
    clear hs hq R2 u2 hAP hK0 p1 q1 hhi hty o1 hi1 hi2 hi3 hi4 c0 c1 c2 c3 c4 c5 fz
    go_wp2_with (first|(at_builtin;refine wpList_append_own_at _ rfl _ _ 92 rfl w.heap.size 94 it (.agg #[.int .i64 0,.int .i64 0,.int .i64 0,.int .i64 0,.slice none 0 0]) 5 56 Tryz.underlying92 HI5.out.1 HI5.out.2.1 HI5.out.2.2.1 HI5.out.2.2.2 rfl (by decide) _ _ _ rfl HA.out ⟨w2.heap.size+1,0,none⟩ 1 1 [.int .i64 cj.num,.int .i64 cj.frm,.int .i64 cj.len,.int .i64 K0,.slice a m2 m2] rfl rfl ?c1 ?c2 ?c3 ?c4 ?c5 ?_)|fail)
    case c1=>
     have e:=cells_five (w2.alloc (.cells #[.int .i64 cj.num,.int .i64 cj.frm,.int .i64 cj.len,.int .i64 K0,.slice a m2 m2] 94)) (.int .i64 cj.num) (.int .i64 cj.frm) (.int .i64 cj.len) (.int .i64 K0) (.slice a m2 m2)
     have hz:(w2.alloc (.cells #[.int .i64 cj.num,.int .i64 cj.frm,.int .i64 cj.len,.int .i64 K0,.slice a m2 m2] 94)).heap.size=w2.heap.size+1:=by show (w2.heap.push _).size=_;simp
     rw [hz] at e;exact e
    case c2=>intro u hu;simp at hu;rcases hu with rfl|rfl|rfl|rfl|rfl<;>rfl
    case c3=>unfold maxLen;omega
    case c4=>omega
    case c5=>simp;omega
    intro v' w5 hown' hgrow hnil hloc
    have ST:=rfStep (I:=I) (AP2:=AP.2) HX2.out HHI.out HS2.out HQ2.out HR2.out GU.out HU2.out HA.out HTY.out hown' hgrow
    have R5:RsAt w5 r q lim AA cj.frm (cj.num+1) false:=ST.1
    have RL:Hid (RfInv w r q lim t n A K cu gm v' (.int .i64 (I+1:Nat)) (w5.setCell ⟨r,3,none⟩ (.int .i64 ((I:Int)+1)))):=by
     refine⟨j+1,by rw [HI.out];rfl,by have:=HK.out;omega,?_,?_,ST.2.2.2,?_⟩
     ·rw [HAA.out,feedC_next HX.out,if_pos h10,← HCJ.out]
      have e:(Sp.nextC cj).frm=I+1:=by show cj.frm+cj.len+1=I+1;omega
      rw [e];exact ST.2.1
     ·rw [feedR_next HX.out,if_pos h10,← HCJ.out,← HRJ.out,HOV.out,← HK0.out];exact ST.2.2.1
     ·rw [HAA.out,feedC_next HX.out,if_pos h10,← HCJ.out];exact GS.out.next
    obtain⟨c0,c1,c2,c3,c4,c5,fz⟩:=R5.facts
    clear hown' hgrow hnil hloc ST R5
    go_wp2_with fail
    go_roundg gm
    case measure=>omega
    case rel=>exact RL.out
   ·have hq10:((AA[I].toNat:Int) == 10)=false:=by assumption
    have h10:x≠10:=fun e=>by
     have h:=HXE.out
     rw [h,e] at hq10
     revert hq10;decide
    have RL:Hid (RfInv w r q lim t n A K cu gm u7 (.int .i64 (I+1:Nat)) wr):=by
     refine⟨j+1,by rw [HI.out];rfl,by have:=HK.out;omega,?_,?_,GU.out,?_⟩
     ·rw [HAA.out,feedC_next HX.out,if_neg h10];exact GR.out
     ·rw [feedR_next HX.out,if_neg h10,List.append_nil];exact GC.out
     ·rw [HAA.out,feedC_next HX.out,if_neg h10]
      exact GS.out.take (by rw [← HAA.out];exact strK_at A K j x HX.out)
    go_roundg gm
    case measure=>omega
    case rel=>exact RL.out
  ·have hlt':¬ ((A.size+j:Nat):Int) < NA:=by have:=HNA.out;omega
   have ej:j=m:=by omega
   subst ej
   have FIN:Hid (RecsAt wr w.heap.size u7 (n+1) (Sp.feedR (apartS t lim) lim cu K)∧RsAt wr r q lim AA (Sp.feedC lim cu K).frm (Sp.feedC lim cu K).num false):=by
    have e:K.take j=K:=List.take_of_length_le (by rw [HK.out];exact Nat.le_refl _)
    have h1:=GC.out
    have h2:=GR.out
    rw [e] at h1 h2
    exact⟨h1,h2⟩
   go_wp2_with fail
   go_ret2
   exact⟨_,rfl,FIN.out.1,FIN.out.2,GU.out⟩
theorem rFeed_nil (v:Value) (w:World):Calls Tryz.prog 57 #[.pointer none,v] w fun e w'=>e=.returned (.tuple #[.slice none 0 0,.int .i64 1])∧Upd [] w w':=by
 go_enter Tryz.func57,Tryz.ntmps57
 go_wp2_with fail
 go_ret2
 exact⟨rfl,Upd.refl _ _⟩
theorem rFeed_shut (r q lim told num:Nat) (A:ByteArray) (v:Value) (w:World) (R:RsAt w r q lim A told num true):Calls Tryz.prog 57 #[.pointer (some ⟨r,0,none⟩),v] w fun e w'=>e=.returned (.tuple #[.slice none 0 0,.int .i64 9])∧Upd [] w w':=by
 obtain⟨c0,c1,c2,c3,c4,c5,fz⟩:=R.facts
 clear R
 go_enter Tryz.func57,Tryz.ntmps57
 go_wp2_with fail
 go_ret2
 exact⟨rfl,Upd.refl _ _⟩
theorem rClose_nil (w:World):Calls Tryz.prog 39 #[.pointer none] w fun e w'=>e=.returned (.tuple #[.slice none 0 0,.int .i64 1])∧Upd [] w w':=by
 go_enter Tryz.func39,Tryz.ntmps39
 go_wp2_with fail
 go_ret2
 exact⟨rfl,Upd.refl _ _⟩
theorem rClose_shut (r q lim told num:Nat) (A:ByteArray) (w:World) (R:RsAt w r q lim A told num true):Calls Tryz.prog 39 #[.pointer (some ⟨r,0,none⟩)] w fun e w'=>e=.returned (.tuple #[.slice none 0 0,.int .i64 9])∧Upd [] w w':=by
 obtain⟨c0,c1,c2,c3,c4,c5,fz⟩:=R.facts
 clear R
 go_enter Tryz.func39,Tryz.ntmps39
 go_wp2_with fail
 go_ret2
 exact⟨rfl,Upd.refl _ _⟩
theorem rHeld_nil (w:World):Calls Tryz.prog 38 #[.pointer none] w fun e w'=>e=.returned (.tuple #[.int .i64 0,.int .i64 1])∧Upd [] w w':=by
 go_enter Tryz.func38,Tryz.ntmps38
 go_wp2_with fail
 go_ret2
 exact⟨rfl,Upd.refl _ _⟩
theorem rHeld_shut (r q lim told num:Nat) (A:ByteArray) (w:World) (R:RsAt w r q lim A told num true):Calls Tryz.prog 38 #[.pointer (some ⟨r,0,none⟩)] w fun e w'=>e=.returned (.tuple #[.int .i64 0,.int .i64 0])∧Upd [] w w':=by
 obtain⟨c0,c1,c2,c3,c4,c5,fz⟩:=R.facts
 clear R
 go_enter Tryz.func38,Tryz.ntmps38
 go_wp2_with fail
 go_ret2
 exact⟨rfl,Upd.refl _ _⟩
theorem stRef_nil (w:World):Calls Tryz.prog 54 #[.pointer none] w fun e w'=>e=.returned (.int .i64 1)∧Upd [] w w':=by
 go_enter Tryz.func54,Tryz.ntmps54
 go_wp2_with fail
 go_ret
 exact⟨rfl,Upd.refl _ _⟩
theorem stRef_shut (s:Nat) (w:World) (S:StShut w s):Calls Tryz.prog 54 #[.pointer (some ⟨s,0,none⟩)] w fun e w'=>e=.returned (.int .i64 9)∧Upd [] w w':=by
 have s0:w.cell? ⟨s,0,none⟩=some (.pointer none):=by unfold StShut at S;rw [World.cell?,S];rfl
 clear S
 go_enter Tryz.func54,Tryz.ntmps54
 go_wp2_with fail
 go_ret
 exact⟨rfl,by (repeat (first|exact Upd.refl _ _|refine Upd.drewN ?_|refine Upd.drew ?_|refine Upd.setCell ?_ (by simp) _|refine Upd.alloc ?_ _))⟩
theorem stFeed_nil (v:Value) (w:World):Calls Tryz.prog 31 #[.pointer none,v] w fun e w'=>e=.returned (.tuple #[.slice none 0 0,.int .i64 1])∧Upd [] w w':=by
 go_enter Tryz.func31,Tryz.ntmps31
 go_wp2_with fail
 refine (stRef_nil w).mono ?_
 rintro e w1 ⟨rfl,u1⟩
 have U1:Hid (Upd [] w w1):=u1
 clear u1
 go_wp2_with fail
 go_ret2
 exact⟨rfl,U1.out⟩
theorem stFeed_shut (s:Nat) (v:Value) (w:World) (S:StShut w s):Calls Tryz.prog 31 #[.pointer (some ⟨s,0,none⟩),v] w fun e w'=>e=.returned (.tuple #[.slice none 0 0,.int .i64 9])∧Upd [] w w':=by
 have HS:Hid (StShut w s):=S
 clear S
 go_enter Tryz.func31,Tryz.ntmps31
 go_wp2_with fail
 refine (stRef_shut s w HS.out).mono ?_
 rintro e w1 ⟨rfl,u1⟩
 have U1:Hid (Upd [] w w1):=u1
 clear u1
 go_wp2_with fail
 go_ret2
 exact⟨rfl,U1.out⟩
theorem stClose_nil (w:World):Calls Tryz.prog 32 #[.pointer none] w fun e w'=>e=.returned (.tuple #[.slice none 0 0,.int .i64 1])∧Upd [] w w':=by
 go_enter Tryz.func32,Tryz.ntmps32
 go_wp2_with fail
 refine (stRef_nil w).mono ?_
 rintro e w1 ⟨rfl,u1⟩
 have U1:Hid (Upd [] w w1):=u1
 clear u1
 go_wp2_with fail
 go_ret2
 exact⟨rfl,U1.out⟩
theorem stClose_shut (s:Nat) (w:World) (S:StShut w s):Calls Tryz.prog 32 #[.pointer (some ⟨s,0,none⟩)] w fun e w'=>e=.returned (.tuple #[.slice none 0 0,.int .i64 9])∧Upd [] w w':=by
 have HS:Hid (StShut w s):=S
 clear S
 go_enter Tryz.func32,Tryz.ntmps32
 go_wp2_with fail
 refine (stRef_shut s w HS.out).mono ?_
 rintro e w1 ⟨rfl,u1⟩
 have U1:Hid (Upd [] w w1):=u1
 clear u1
 go_wp2_with fail
 go_ret2
 exact⟨rfl,U1.out⟩
theorem stHeld_nil (w:World):Calls Tryz.prog 37 #[.pointer none] w fun e w'=>e=.returned (.tuple #[.int .i64 0,.int .i64 1])∧Upd [] w w':=by
 go_enter Tryz.func37,Tryz.ntmps37
 go_wp2_with fail
 go_ret2
 exact⟨rfl,Upd.refl _ _⟩
theorem stHeld_shut (s:Nat) (w:World) (S:StShut w s):Calls Tryz.prog 37 #[.pointer (some ⟨s,0,none⟩)] w fun e w'=>e=.returned (.tuple #[.int .i64 0,.int .i64 0])∧Upd [] w w':=by
 have s0:w.cell? ⟨s,0,none⟩=some (.pointer none):=by unfold StShut at S;rw [World.cell?,S];rfl
 clear S
 go_enter Tryz.func37,Tryz.ntmps37
 go_wp2_with fail
 go_ret2
 exact⟨rfl,by (repeat (first|exact Upd.refl _ _|refine Upd.drewN ?_|refine Upd.drew ?_|refine Upd.setCell ?_ (by simp) _|refine Upd.alloc ?_ _))⟩
theorem sOpen_nil (n:Int) (w:World):Calls Tryz.prog 17 #[.pointer none,.int .i64 n] w fun e w'=>e=.returned (.tuple #[.pointer none,.int .i64 1])∧Upd [] w w':=by
 go_enter Tryz.func17,Tryz.ntmps17
 go_wp2_with fail
 go_ret2
 exact⟨rfl,Upd.refl _ _⟩
theorem sOpen_arg (p:Nat) (n:Int) (w:World) (h:n < 0∨100 < n):Calls Tryz.prog 17 #[.pointer (some ⟨p,0,none⟩),.int .i64 n] w fun e w'=>e=.returned (.tuple #[.pointer none,.int .i64 8])∧Upd [] w w':=by
 rcases h with h|h
 ·go_enter Tryz.func17,Tryz.ntmps17
  go_wp2_with fail
  go_ret2
  exact⟨rfl,Upd.refl _ _⟩
 ·have h2:¬ n < 0:=by omega
  go_enter Tryz.func17,Tryz.ntmps17
  go_wp2_with fail
  go_ret2
  exact⟨rfl,Upd.refl _ _⟩
theorem rOpen_arg (p:Nat) (n:Int) (w:World) (h:n < 0∨100 < n):Calls Tryz.prog 18 #[.pointer (some ⟨p,0,none⟩),.int .i64 n] w fun e w'=>e=.returned (.tuple #[.pointer none,.int .i64 8])∧Upd [] w w':=by
 rcases h with h|h
 ·go_enter Tryz.func18,Tryz.ntmps18
  go_wp2_with fail
  go_ret2
  exact⟨rfl,Upd.refl _ _⟩
 ·have h2:¬ n < 0:=by omega
  go_enter Tryz.func18,Tryz.ntmps18
  go_wp2_with fail
  go_ret2
  exact⟨rfl,Upd.refl _ _⟩
theorem rOpen_any (q n:Nat) (w:World) (hn:n≤100):Calls Tryz.prog 18 #[.pointer (some ⟨q,0,none⟩),.int .i64 n] w fun e w'=>e=.returned (.tuple #[.pointer (some ⟨w.heap.size,0,none⟩),.int .i64 0])∧RsAt w' w.heap.size q n ByteArray.empty 0 0 false∧Upd [] w w':=by
 have h1:¬ (n:Int) < 0:=by omega
 have h2:¬ (100:Int) < n:=by omega
 go_enter Tryz.func18,Tryz.ntmps18
 go_wp2_with fail
 go_ret2
 exact⟨rfl,heap_new rfl,by (repeat (first|exact Upd.refl _ _|refine Upd.drewN ?_|refine Upd.drew ?_|refine Upd.setCell ?_ (by simp) _|refine Upd.alloc ?_ _))⟩
theorem rHeld_any (r q lim:Nat) (A:ByteArray) (cu:Sp.Cu) (w:World) (hl:lim≤100) (hsz:A.size≤1100000) (S:Sp.StrAt lim A.data.toList A.size cu) (F:cu.fit lim) (R:RsAt w r q lim A cu.frm cu.num false):Calls Tryz.prog 38 #[.pointer (some ⟨r,0,none⟩)] w fun e w'=>e=.returned (.tuple #[.int .i64 cu.held.length,.int .i64 0])∧Upd [] w w':=by
 obtain⟨c0,c1,c2,c3,c4,c5,fz⟩:=R.facts
 have hs:=S.sum
 have hf:cu.held.length=min cu.len lim:=F
 have hmin:min ((A.size:Int) - cu.frm) lim=cu.held.length:=by omega
 clear R S F hs hf
 go_enter Tryz.func38,Tryz.ntmps38
 go_wp2_with fail
 go_quiet (fail)
 go_wp2_with fail
 go_ret2
 exact⟨rfl,by (repeat (first|exact Upd.refl _ _|refine Upd.drewN ?_|refine Upd.drew ?_|refine Upd.setCell ?_ (by simp) _|refine Upd.alloc ?_ _))⟩
theorem RsAt.shut {w:World} {r q lim told num:Nat} {A:ByteArray} {cl:Bool} (R:RsAt w r q lim A told num cl):RsAt (w.setCell ⟨r,5,none⟩ (.bool true)) r q lim A told num true:=heap_set R 5 _
set_option maxRecDepth 8000 in
set_option maxHeartbeats 1600000 in
theorem rClose_no (r q lim n:Nat) (A:ByteArray) (cu:Sp.Cu) (t:Tr) (w:World) (hl:lim≤100) (hsz:A.size≤1100000) (S:Sp.StrAt lim A.data.toList A.size cu) (h0:cu.len=0) (R:RsAt w r q lim A cu.frm cu.num false):Calls Tryz.prog 39 #[.pointer (some ⟨r,0,none⟩)] w fun e w'=>∃ v,e=.returned (.tuple #[v,.int .i64 0])∧RecsAt w' w.heap.size v (n+1) (Sp.closeR (apartS t lim) cu)∧(∃ told num,RsAt w' r q lim A told num true)∧Upd [r] w w':=by
 have hr:Hid (Sp.closeR (apartS t lim) cu=[]):=by show _=_;unfold Sp.closeR;rw [if_pos h0]
 have hs:=S.sum
 have hfr:cu.frm=A.size:=by omega
 rw [hfr] at R
 obtain⟨c0,c1,c2,c3,c4,c5,fz⟩:=R.facts
 have HR:Hid (RsAt w r q lim A A.size cu.num false):=R
 clear R S hs hfr h0
 go_enter Tryz.func39,Tryz.ntmps39
 go_wp2_with fail
 have R1:Hid (RsAt (w.setCell ⟨r,5,none⟩ (.bool true)) r q lim A A.size cu.num true):=HR.out.shut
 have U1:Hid (Upd [r] w (w.setCell ⟨r,5,none⟩ (.bool true))):=Upd.setCell (Upd.refl _ _) (by simp) _
 clear c0 c1 c2 c3 c4 c5 fz
 generalize w.setCell ⟨r,5,none⟩ (.bool true)=w1 at *
 obtain⟨c0,c1,c2,c3,c4,c5,fz⟩:=R1.out.facts
 go_quiet (fail)
 go_wp2_with fail
 go_ret2
 refine⟨_,rfl,?_,⟨_,_,R1.out⟩,U1.out.trans (by (repeat (first|exact Upd.refl _ _|refine Upd.drewN ?_|refine Upd.drew ?_|refine Upd.setCell ?_ (by simp) _|refine Upd.alloc ?_ _)))⟩
 rw [hr.out]
 exact RecsAt.nil _ _ _ U1.out.size
set_option maxRecDepth 8000 in
set_option maxHeartbeats 1600000 in
theorem rClose_yes (r q lim n:Nat) (A:ByteArray) (cu:Sp.Cu) (s:ByteArray) (t:Tr) (w:World) (hl:lim≤100) (hsz:A.size≤1100000) (hnum:cu.num≤A.size) (S:Sp.StrAt lim A.data.toList A.size cu) (h0:cu.len≠0) (R:RsAt w r q lim A cu.frm cu.num false) (P:RfPat w q s t n):Calls Tryz.prog 39 #[.pointer (some ⟨r,0,none⟩)] w fun e w'=>∃ v,e=.returned (.tuple #[v,.int .i64 0])∧RecsAt w' w.heap.size v (n+1) (Sp.closeR (apartS t lim) cu)∧(∃ told num,RsAt w' r q lim A told num true)∧Upd [r] w w':=by
 have hr:Hid (Sp.closeR (apartS t lim) cu=[Sp.overR (apartS t lim) cu]):=by show _=_;unfold Sp.closeR;rw [if_neg h0]
 have hs:=S.sum
 have hne:¬ (cu.frm:Int)=A.size:=by omega
 have hne':¬ cu.frm=A.size:=by omega
 obtain⟨c0,c1,c2,c3,c4,c5,fz⟩:=R.facts
 have HR:Hid (RsAt w r q lim A cu.frm cu.num false):=R
 have HP:Hid (∀ w2,Upd [r] w w2→RfPat w2 q s t n):=fun w2 u=>P.frame (Upd.pat u (LTy.cons ⟨_,R⟩ (T:=105) rfl (LTy.nil strT w)) strT_not)
 have HS:Hid (Sp.StrAt lim A.data.toList A.size cu):=S
 have HSM:Hid (cu.frm+cu.len=A.size):=hs
 have hlb:cu.len≤3000000:=by omega
 have hfb:cu.frm≤3000000:=by omega
 clear R S hs h0 P
 go_enter Tryz.func39,Tryz.ntmps39
 go_wp2_with fail
 have R1:Hid (RsAt (w.setCell ⟨r,5,none⟩ (.bool true)) r q lim A cu.frm cu.num true):=HR.out.shut
 have U1:Hid (Upd [r] w (w.setCell ⟨r,5,none⟩ (.bool true))):=Upd.setCell (Upd.refl _ _) (by simp) _
 clear c0 c1 c2 c3 c4 c5 fz
 generalize w.setCell ⟨r,5,none⟩ (.bool true)=w1 at *
 obtain⟨c0,c1,c2,c3,c4,c5,fz⟩:=R1.out.facts
 go_quiet (fail)
 have R2:Hid (RsAt (w1.drewN nq) r q lim A cu.frm cu.num true):=R1.out
 have U2:Hid (Upd [r] w (w1.drewN nq)):=U1.out.trans (drewN_upd _ _ _)
 clear c0 c1 c2 c3 c4 c5 fz R1 U1
 generalize w1.drewN nq=w2 at *
 clear w1 nq
 obtain⟨c0,c1,c2,c3,c4,c5,fz⟩:=R2.out.facts
 go_wp2_with fail
 refine (rRec_any r q lim cu.num cu.frm cu.len A.size n s t A true _ hl (by omega) hfb hlb HSM.out.symm (Nat.le_refl _) R2.out (HP.out _ U2.out)).mono ?_
 rintro e w3 ⟨a,m,he,hs,hq,r3,u3⟩
 have EA:apartS t lim cu.frm cu.len (A.extract cu.frm A.size).data.toList=apartS t lim cu.frm cu.len cu.held:=by rw [apart_at (S:=A) HS.out,HSM.out]
 rw [EA] at he hs
 have HS3:Hid (RecSp w3 a m (n+1) (Sp.overR (apartS t lim) cu).sp):=hs
 have HQ3:Hid (∀ q o s,a=some ⟨q,o,s⟩→w2.heap.size≤q):=hq
 have HR3:Hid (RsAt w3 r q lim A cu.frm (cu.num+1) true):=r3
 have HU3:Hid (Upd [r] w w3):=U2.out.trans u3
 obtain⟨K0,hK0⟩:∃ x,x=(apartS t lim cu.frm cu.len cu.held).1:=⟨_,rfl⟩
 have HK0:Hid (K0=(apartS t lim cu.frm cu.len cu.held).1):=hK0
 rw [← hK0] at he
 subst he
 clear hs hq r3 u3 EA hK0 c0 c1 c2 c3 c4 c5 fz
 go_wp2_with fail
 go_ret2
 have hz:(w3.alloc (.cells #[.int .i64 cu.num,.int .i64 cu.frm,.int .i64 cu.len,.int .i64 K0,.slice a m m] 94)).heap.size=w3.heap.size+1:=by show (w3.heap.push _).size=_;simp
 have ua:Upd [] w3 (w3.alloc (.cells #[.int .i64 cu.num,.int .i64 cu.frm,.int .i64 cu.len,.int .i64 K0,.slice a m m] 94)):=Upd.alloc (Upd.refl _ _) _
 have E:=closeEnd (c:=r) hr.out (HS3.out.keep ua (by simp)) (HU3.out.trans (ua.mono (by simp))) (fun q o s e=>Nat.le_trans U2.out.size (HQ3.out q o s e))
 rw [hz,← HK0.out] at E
 have ub:Upd [] w3 ((w3.alloc (.cells #[.int .i64 cu.num,.int .i64 cu.frm,.int .i64 cu.len,.int .i64 K0,.slice a m m] 94)).alloc (.cells #[.int .i64 cu.num,.int .i64 cu.frm,.int .i64 cu.len,.int .i64 K0,.slice a m m] 94)):=Upd.alloc ua _
 exact⟨_,rfl,E,⟨_,_,(ub.block r (lt_of_heap HR3.out) (by simp)).trans HR3.out⟩,HU3.out.trans (ub.mono (by simp))⟩
theorem rClose_any (r q lim n:Nat) (A:ByteArray) (cu:Sp.Cu) (s:ByteArray) (t:Tr) (w:World) (hl:lim≤100) (hsz:A.size≤1100000) (hnum:cu.num≤A.size) (S:Sp.StrAt lim A.data.toList A.size cu) (R:RsAt w r q lim A cu.frm cu.num false) (P:RfPat w q s t n):Calls Tryz.prog 39 #[.pointer (some ⟨r,0,none⟩)] w fun e w'=>∃ v,e=.returned (.tuple #[v,.int .i64 0])∧RecsAt w' w.heap.size v (n+1) (Sp.closeR (apartS t lim) cu)∧(∃ told num,RsAt w' r q lim A told num true)∧Upd [r] w w':=by
 by_cases h0:cu.len=0
 ·exact rClose_no r q lim n A cu t w hl hsz S h0 R
 ·exact rClose_yes r q lim n A cu s t w hl hsz hnum S h0 R P
end Go.Proofs.YtcpfpnjkfahjcaaGreat
