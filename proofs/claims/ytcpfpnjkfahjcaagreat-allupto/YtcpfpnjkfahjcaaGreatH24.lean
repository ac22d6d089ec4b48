import Derived.Test.YtcpfpnjkfahjcaaGreatH23
import Derived.Test.YtcpfpnjkfahjcaaGreatH02
set_option linter.unusedSimpArgs false
set_option linter.unusedVariables false
namespace Go.Proofs.YtcpfpnjkfahjcaaGreat
open Go.RowKit
structure TwInv (w0:World) (s:Nat) (t:ByteArray) (g v nn:Nat) (w:World) (sp:Nat→Int×Int) (n:Nat) (tr:Tr) (D:Nat→Prop) (m i j:Nat) (gn:Nat) (wr:World):Prop where
 st:∃ d k:Nat,∃ sp',D d∧(m - d)+(j - k)≤gn∧k≤j∧Sp.spotM t tr d k j=true∧Walk w0 s t g v nn sp' wr∧GoneG s g w wr∧SpAt wr w.heap.size ⟨n,d,k⟩∧
  Sp.puts sp' (Sp.spotG t tr d k j)=Sp.puts sp (Sp.spotG t tr 0 i j)
set_option maxHeartbeats 1600000 in
theorem mThrT_any (w0:World) (s:Nat) (t:ByteArray) (g v nn n b cap q i j m:Nat) (tr:Tr) (a:TN) (D:Nat→Prop) (hD:D 0) (ht:t.size≤100) (hj:j≤t.size) (hn:TnAt w0 n a) (hns:n < s) (hp:a.parts=.slice (some ⟨b,0,none⟩) 1 cap) (hb:b < s) (hc:w0.cell? ⟨b,0,none⟩=some (ptr q))
  (hl:a.least=m) (hm20:m≤20) (hij:i≤j) (hm:Sp.spotM t tr 0 i j=true) (hover:∀ d k,m≤d→Sp.spotG t tr d k k=[])
  (h1:∀ (d k:Nat),D d→k≤j→Sp.spotM t tr d k j=true→(d < m∨k < j)→∃ k' d' l,D d'∧k≤k'∧k'≤j∧(m - d')+(j - k') < (m - d)+(j - k)∧Sp.spotM t tr d' k' j=true∧Sp.spotG t tr d k j=l++Sp.spotG t tr d' k' j∧PieceC w0 s t g v nn q n d d' k j k' l) :
  StepC w0 s t g v nn 98 n (Sp.spotG t tr 0 i j) i j:=by
 intro w sp h
 have hs:=h.live.lt
 have HN:Hid (TnAt w0 n a):=hn
 have HC:Hid (w0.cell? ⟨b,0,none⟩=some (ptr q)):=hc
 have HO:Hid (∀ d k,m≤d→Sp.spotG t tr d k k=[]):=hover
 have H1:Hid (∀ (d k:Nat),D d→k≤j→Sp.spotM t tr d k j=true→(d < m∨k < j)→∃ k' d' l,D d'∧k≤k'∧k'≤j∧(m - d')+(j - k') < (m - d)+(j - k)∧Sp.spotM t tr d' k' j=true∧Sp.spotG t tr d k j=l++Sp.spotG t tr d' k' j∧PieceC w0 s t g v nn q n d d' k j k' l):=h1
 have HI:Hid (TwInv w0 s t g v nn w sp n tr D m i j (m+j) (w.alloc (.cells #[.pointer (some ⟨n,0,none⟩),.int .i64 ((0:Nat):Int),.int .i64 i] 140))):=
  ⟨0,i,sp,hD,by omega,hij,hm,h.upd (by (repeat (first|exact Upd.refl _ _|refine Upd.drewN ?_|refine Upd.drew ?_|refine Upd.setCell ?_ (by simp) _|refine Upd.alloc ?_ _))),Upd.toG (by (repeat (first|exact Upd.refl _ _|refine Upd.drewN ?_|refine Upd.drew ?_|refine Upd.setCell ?_ (by simp) _|refine Upd.alloc ?_ _))),SpAt.new rfl,rfl⟩
 have hsg:=h.sg
 have hgl:=lt_of_heap h.sp
 have hvl:=lt_of_heap h.wk
 clear h hn hc h1 hm hover
 unfold spotV ptr
 go_enter Tryz.func98,Tryz.ntmps98
 go_wp2_with fail
 go_loopg [] (m+j) (fun gn wr=>TwInv w0 s t g v nn w sp n tr D m i j gn wr)
 case atStart=>exact HI.out
 case round=>
  obtain⟨d,k,sp',hd,hgn,hkj,hm,wk,gr,sr,hp'⟩:=hrel.st
  have WR:Hid (Walk w0 s t g v nn sp' wr):=wk
  have GR:Hid (GoneG s g w wr):=gr
  have SR:Hid (SpAt wr w.heap.size ⟨n,d,k⟩):=sr
  have HP:Hid (Sp.puts sp' (Sp.spotG t tr d k j)=Sp.puts sp (Sp.spotG t tr 0 i j)):=hp'
  have yC:=lt_of_heap sr
  obtain⟨e0,e1,e2,ez⟩:=sr.facts
  obtain⟨c0,c1,c2,c3,c4,c5,c6,c7,c8,c9,c10,c11,fz⟩:=(wk.live.tn HN.out hns).facts
  rw [hp] at c2
  rw [hl] at c10
  have hcell:wr.cell? ⟨b,0,none⟩=some (.pointer (some ⟨q,0,none⟩)):=wk.live.cell HC.out hb
  by_cases hmore:d < m∨k < j
  ·obtain⟨k',d',l,hd',hk1,hk2,hk3,hk4,hk5,hk6⟩:=H1.out d k hd hkj hm hmore
   have HE:Hid (PieceC w0 s t g v nn q n d d' k j k' l):=hk6
   have HG:Hid (Sp.spotG t tr d k j=l++Sp.spotG t tr d' k' j):=hk5
   have HM:Hid (Sp.spotM t tr d' k' j=true):=hk4
   have HLT:Hid ((m - d')+(j - k') < (m - d)+(j - k)):=hk3
   clear wk gr sr hp' hm hk4 hk5 hk6 hk3
   have tail:True:=trivial
   by_cases hdm:d < m
   ·have hdm':(d:Int) < m:=by omega
    clear hmore
    go_wp2_with fail
    go_quiet (fail)
    go_wp2_with fail
    go_region_with (go_at_call 114;refine (HE.out _ sp' (WR.out.upd (by (repeat (first|exact Upd.refl _ _|refine Upd.drewN ?_|refine Upd.drew ?_|refine Upd.setCell ?_ (by simp) _|refine Upd.alloc ?_ _))))).mono ?_;rintro e w4 ⟨rfl,h4,g4⟩;have g5:GoneG s g wr w4:=(Upd.toG (by (repeat (first|exact Upd.refl _ _|refine Upd.drewN ?_|refine Upd.drew ?_|refine Upd.setCell ?_ (by simp) _|refine Upd.alloc ?_ _)))).trans g4;have c4:=SR.out.goneG g5 (by omega) (by omega);have S4:Hid (SpAt w4 w.heap.size ⟨n,d,k⟩):=c4;have W4:Hid (Walk w0 s t g v nn (Sp.puts sp' l) w4):=h4;have G4:Hid (GoneG s g w w4):=GR.out.trans g5;obtain⟨x0,x1,x2,xz⟩:=c4.facts;have y4:=lt_of_heap c4;clear h4 g4 g5 c4;unfold spotV)
    all_goals
     have u9:Upd [w.heap.size] w4 (((w4.setCell ⟨w.heap.size,0,none⟩ (.pointer (some ⟨n,0,none⟩))).setCell ⟨w.heap.size,1,none⟩ (.int .i64 d')).setCell ⟨w.heap.size,2,none⟩ (.int .i64 k')):=by (repeat (first|exact Upd.refl _ _|refine Upd.drewN ?_|refine Upd.drew ?_|refine Upd.setCell ?_ (by simp) _|refine Upd.alloc ?_ _))
     have RL:Hid (TwInv w0 s t g v nn w sp n tr D m i j ((m - d')+(j - k')) (((w4.setCell ⟨w.heap.size,0,none⟩ (.pointer (some ⟨n,0,none⟩))).setCell ⟨w.heap.size,1,none⟩ (.int .i64 d')).setCell ⟨w.heap.size,2,none⟩ (.int .i64 k'))):=by
      refine⟨d',k',Sp.puts sp' l,hd',Nat.le_refl _,hk2,HM.out,W4.out.spot u9 S4.out (S4.out.store ⟨n,d',k'⟩) (by omega),G4.out.hide u9 (by simp),S4.out.store ⟨n,d',k'⟩,?_⟩
      rw [← HP.out,HG.out,Sp.puts_append]
     clear u9
     go_wp2_with fail
     go_roundg ((m - d')+(j - k'))
     case measure=>have:=HLT.out;omega
     case rel=>exact RL.out
   ·have hdm':¬ (d:Int) < m:=by omega
    have hkj':(k:Int) < j:=by omega
    clear hmore
    go_wp2_with fail
    go_quiet (fail)
    go_wp2_with fail
    go_region_with (go_at_call 114;refine (HE.out _ sp' (WR.out.upd (by (repeat (first|exact Upd.refl _ _|refine Upd.drewN ?_|refine Upd.drew ?_|refine Upd.setCell ?_ (by simp) _|refine Upd.alloc ?_ _))))).mono ?_;rintro e w4 ⟨rfl,h4,g4⟩;have g5:GoneG s g wr w4:=(Upd.toG (by (repeat (first|exact Upd.refl _ _|refine Upd.drewN ?_|refine Upd.drew ?_|refine Upd.setCell ?_ (by simp) _|refine Upd.alloc ?_ _)))).trans g4;have c4:=SR.out.goneG g5 (by omega) (by omega);have S4:Hid (SpAt w4 w.heap.size ⟨n,d,k⟩):=c4;have W4:Hid (Walk w0 s t g v nn (Sp.puts sp' l) w4):=h4;have G4:Hid (GoneG s g w w4):=GR.out.trans g5;obtain⟨x0,x1,x2,xz⟩:=c4.facts;have y4:=lt_of_heap c4;clear h4 g4 g5 c4;unfold spotV)
    all_goals
     have u9:Upd [w.heap.size] w4 (((w4.setCell ⟨w.heap.size,0,none⟩ (.pointer (some ⟨n,0,none⟩))).setCell ⟨w.heap.size,1,none⟩ (.int .i64 d')).setCell ⟨w.heap.size,2,none⟩ (.int .i64 k')):=by (repeat (first|exact Upd.refl _ _|refine Upd.drewN ?_|refine Upd.drew ?_|refine Upd.setCell ?_ (by simp) _|refine Upd.alloc ?_ _))
     have RL:Hid (TwInv w0 s t g v nn w sp n tr D m i j ((m - d')+(j - k')) (((w4.setCell ⟨w.heap.size,0,none⟩ (.pointer (some ⟨n,0,none⟩))).setCell ⟨w.heap.size,1,none⟩ (.int .i64 d')).setCell ⟨w.heap.size,2,none⟩ (.int .i64 k'))):=by
      refine⟨d',k',Sp.puts sp' l,hd',Nat.le_refl _,hk2,HM.out,W4.out.spot u9 S4.out (S4.out.store ⟨n,d',k'⟩) (by omega),G4.out.hide u9 (by simp),S4.out.store ⟨n,d',k'⟩,?_⟩
      rw [← HP.out,HG.out,Sp.puts_append]
     clear u9
     go_wp2_with fail
     go_roundg ((m - d')+(j - k'))
     case measure=>have:=HLT.out;omega
     case rel=>exact RL.out
  ·have hdm':¬ (d:Int) < m:=by omega
   have hkj':¬ (k:Int) < j:=by omega
   have hdm2:¬ d < m:=by omega
   have hkj3:¬ k < j:=by omega
   have HOO:Hid (Sp.spotG t tr d k j=[]):=by
    have hkj2:k=j:=by omega
    show _=_
    rw [hkj2];exact HO.out d j (by omega)
   clear wk gr sr hp' hm hmore
   go_wp2_with fail
   go_quiet (fail)
   go_wp2_with fail
   go_end0
   refine⟨rfl,?_,GR.out.hide (l:=[]) (by (repeat (first|exact Upd.refl _ _|refine Upd.drewN ?_|refine Upd.drew ?_|refine Upd.setCell ?_ (by simp) _|refine Upd.alloc ?_ _))) (by simp)⟩
   rw [← HP.out,HOO.out];exact WR.out.upd (by (repeat (first|exact Upd.refl _ _|refine Upd.drewN ?_|refine Upd.drew ?_|refine Upd.setCell ?_ (by simp) _|refine Upd.alloc ?_ _)))
theorem firstC (w0:World) (s:Nat) (t:ByteArray) (g v nn n p d i j k:Nat) (tr pt:Tr) (a:TN) (ht:t.size≤100) (hj:j≤t.size) (hd:d < 1000) (hn:TnAt w0 n a) (hns:n < s) (hl:0≤a.least)
  (h1:EndsC w0 s t p pt 0 i) (h2:∀ k,i < k→k≤t.size→(Sp.sem t pt).m i k=true→EndsC w0 s t n tr (nextD a d) k)
  (hk:Sp.greatest (fun k=>(Sp.sem t pt).m i k && Sp.spotM t tr (nextD a d) k j) i j=some k):FirstC w0 s t g v nn p ⟨n,d,i⟩ j k:=
 fun w sp h=>mFirst_any w0 s t g v nn n p d i j k sp tr pt a w h ht hj hd hn hns hl h1 h2 hk
theorem pieceC (w0:World) (s:Nat) (t:ByteArray) (g v nn n p d i j k:Nat) (l:List Sp.Gr) (a:TN) (hd:d < 1000) (hn:TnAt w0 n a) (hns:n < s) (hl:0≤a.least)
  (h1:FirstC w0 s t g v nn p ⟨n,d,i⟩ j k) (h2:ThrC w0 s t g v nn p l i k):PieceC w0 s t g v nn p n d (nextD a d) i j k l:=
 fun w sp h=>mThrF_any w0 s t g v nn n p d i j k sp l a w h hd hn hns hl h1 h2
structure Part (w0:World) (s:Nat) (t:ByteArray) (g v nn:Nat) (p:Nat) (u:Tr):Prop where
 ends:∀ i,i≤t.size→EndsC w0 s t p u 0 i
 thr:∀ i j,j≤t.size→(Sp.sem t u).m i j=true→ThrC w0 s t g v nn p ((Sp.sem t u).g i j) i j
theorem bare_thr (w0:World) (s q:Nat) (g v nn:Nat) (S:Nat→Prop) (t:ByteArray) (tr:Tr) (sz:Int) (l:Value) (qs:List Nat) (ht:t.size≤100)
  (hS:∀ k,S k→k < s) (hT:NodesAt w0 S [q] [tr]) (hC:Sp.Can [tr]) (hSq:S q) (hn:TnAt w0 q (tnOf tr.lab sz l)) (hp:PartsIn w0 s l qs) (hkl:qs.length=tr.kids.length) (hf:tr.kids.length≤1000) (hmin:tr.lab.min < 0) (hnum:tr.lab.num < nn)
  (hk:∀ (k p:Nat) (u:Tr),qs[k]?=some p→tr.kids[k]?=some u→Part w0 s t g v nn p u) (i j:Nat) (hj:j≤t.size) (hm:(Sp.sem t tr).m i j=true):ThrC w0 s t g v nn q ((Sp.sem t tr).g i j) i j:=by
 have hc:=((Sp.Can_cons _ _).mp hC).1
 have hns:=hS q hSq
 have hij:=Sp.sem_le t tr i j hm
 have e0:Sp.sem t tr=Sp.bareSem t tr.lab (Sp.sems t tr.kids):=by unfold Sp.sem Sp.node;rw [if_pos hmin]
 rcases (by have:=hc.1.kind;omega:tr.lab.kind≤2∨tr.lab.kind=3∨tr.lab.kind=4∨tr.lab.kind=5) with h|h|h|h
 ·have e:(Sp.sem t tr).g i j=[]:=by rw [e0];unfold Sp.bareSem;rw [if_pos h]
  rw [e]
  rcases (by omega:tr.lab.kind=0∨tr.lab.kind=1∨tr.lab.kind=2) with h'|h'|h'
  ·exact mThr_0 w0 s t g v nn q _ [] i j hn hns (by simp [tnOf,kindP,h']) (mThrB_any w0 s t g v nn q i j)
  ·exact mThr_1 w0 s t g v nn q _ [] i j hn hns (by simp [tnOf,kindP,h']) (mThrB_any w0 s t g v nn q i j)
  ·exact mThr_2 w0 s t g v nn q _ [] i j hn hns (by simp [tnOf,kindP,h']) (mThrB_any w0 s t g v nn q i j)
 ·have h1:=hc.2.2.1 h
  obtain⟨u,hu⟩:∃ u,tr.kids=[u]:=List.length_eq_one_iff.mp h1
  obtain⟨p,hpq⟩:∃ p,qs=[p]:=List.length_eq_one_iff.mp (by omega)
  subst hpq
  have hP:=hk 0 p u rfl (by rw [hu];rfl)
  have e1:Sp.sems t tr.kids=[Sp.sem t u]:=by rw [hu,Sp.sems_cons,Sp.sems_nil]
  have hmu:(Sp.sem t u).m i j=true:=by
   rw [e0] at hm
   unfold Sp.bareSem at hm
   rw [if_neg (by omega),if_pos h,e1] at hm
   have hm':Sp.choiceM [Sp.sem t u] i j=true:=hm
   unfold Sp.choiceM at hm';simpa using hm'
  have e:(Sp.sem t tr).g i j=(if tr.lab.told then [(tr.lab.num,i,j)] else [])++(Sp.sem t u).g i j:=by
   rw [e0]
   unfold Sp.bareSem
   rw [if_neg (by omega),if_pos h,e1]
   show _++Sp.choiceG [Sp.sem t u] i j=_
   rw [Sp.choiceG,if_pos hmu]
  rw [e]
  have hcu:=hP.thr i j hj hmu
  rcases hp with ⟨_,h2⟩|⟨b,cap,h2,hb,hcc⟩
  ·simp at h2
  ·have ht':=hc.1.told
   by_cases h0:tr.lab.num=0
   ·have htf:tr.lab.told=false:=by rw [ht',h0];rfl
    rw [htf]
    exact mThr_3 w0 s t g v nn q _ _ i j hn hns (by simp [tnOf,kindP,h]) (mThrG_quiet w0 s t g v nn q b cap p _ _ i j hn hns h2 hb (hcc 0 p rfl) (by simp [tnOf,h,h0]) hcu)
   ·have htt:tr.lab.told=true:=by rw [ht'];simp [h0]
    rw [htt]
    exact mThr_3 w0 s t g v nn q _ _ i j hn hns (by simp [tnOf,kindP,h]) (mThrG_told w0 s t g v nn q b cap p tr.lab.num _ _ i j hn hns h2 hb (hcc 0 p rfl) (by simp [tnOf,h]) (by omega) hnum hcu)
 ·have e:(Sp.sem t tr).g i j=Sp.choiceG (Sp.sems t tr.kids) i j:=by
   rw [e0];unfold Sp.bareSem;rw [if_neg (by omega),if_neg (by omega),if_pos h]
  rw [e]
  have hne:qs≠[]:=by
   intro q0;subst q0
   exact hc.2.2.2 h (List.eq_nil_of_length_eq_zero (by simpa using hkl.symm))
  rcases hp with ⟨_,h2⟩|⟨b,cap,h2,hb,hcc⟩
  ·exact absurd h2 hne
  ·exact mThr_6 w0 s t g v nn q _ _ i j hn hns (by simp [tnOf,kindP,h]) (mThrC_some w0 s t g v nn q b cap i j qs tr.kids _ ht hj hn hns h2 hb (by omega) hkl hcc
    (fun k p u h3 h4=>(hk k p u h3 h4).ends i (by omega)) (fun k p u h3 h4 h5=>(hk k p u h3 h4).thr i j hj h5))
 ·have e:(Sp.sem t tr).g i j=Sp.spotG t tr 0 i j:=(Sp.spotG_zero t tr i j).symm
  have hm0:Sp.spotM t tr 0 i j=true:=by rw [Sp.spotM_zero];exact hm
  rw [e]
  rcases hp with ⟨h1,h2⟩|⟨b,cap,h2,hb,hcc⟩
  ·have hkz:tr.kids.length≤0:=by rw [h2] at hkl;simp at hkl;omega
   rw [Sp.row_over hmin h hkz]
   exact mThr_5 w0 s t g v nn q _ _ i j hn hns (by simp [tnOf,kindP,h]) (mThrR_nil w0 s t g v nn q i j _ hn hns h1)
  ·have hE:=row_ends w0 s q S t tr _ qs ht hS hT hC hn hns (by simp [tnOf,kindP,h]) (Or.inr ⟨b,cap,h2,hb,hcc⟩) (by omega) hkl rfl rfl h hmin (fun k p u h1 h2=>(hk k p u h1 h2).ends)
   refine mThr_5 w0 s t g v nn q _ _ i j hn hns (by simp [tnOf,kindP,h]) (mThrR_some w0 s t g v nn q b cap i j qs tr _ hn hns h2 hb (by omega) hkl hcc h hmin hij hm0 ?_)
   intro c p u k k' h3 h4 h5 h6
   have hcl:c < qs.length:=by
    rcases Nat.lt_or_ge c qs.length with q'|q'
    ·exact q'
    ·rw [List.getElem?_eq_none q'] at h3;cases h3
   have r:=Sp.greatest_some h6
   have r3:=r.2.2.1
   rw [Bool.and_eq_true] at r3
   have hnx:nextD (tnOf tr.lab sz l) c=c+1:=by unfold nextD tnOf;simp
   have hP:=hk c p u h3 h4
   have:=pieceC w0 s t g v nn q p c k j k' ((Sp.sem t u).g k k') _ (by omega) hn hns (by simp [tnOf])
    (firstC w0 s t g v nn q p c k j k' tr u _ ht hj (by omega) hn hns (by simp [tnOf]) (hP.ends k (by omega)) (fun x h7 h8 _=>by rw [hnx];exact hE _ (c+1) x rfl (by omega) h8) (by rw [hnx];exact h6))
    (hP.thr k k' (by omega) r3.1)
   rw [hnx] at this
   exact this
theorem turns_thr (w0:World) (s n q b cap:Nat) (g v nn:Nat) (t:ByteArray) (tr:Tr) (a:TN) (m:Nat) (mx:Int) (ht:t.size≤100)
  (hn:TnAt w0 n a) (hns:n < s) (hk:a.kind=4) (hp:a.parts=.slice (some ⟨b,0,none⟩) 1 cap) (hb:b < s) (hc:w0.cell? ⟨b,0,none⟩=some (ptr q))
  (hl:a.least=m) (hx:a.most=mx) (hm:m≤20) (hmx:-1≤mx∧mx≤20) (hmm:mx=-1∨(m:Int)≤mx) (hmin:tr.lab.min=m) (hmax:tr.lab.max=mx)
  (hE:∀ d i,i≤t.size→okD m mx d→EndsC w0 s t n tr d i) (hP:Part w0 s t g v nn q (bare0 tr)) (i j:Nat) (hj:j≤t.size) (hmt:(Sp.sem t tr).m i j=true):ThrC w0 s t g v nn n ((Sp.sem t tr).g i j) i j:=by
 have hij:=Sp.sem_le t tr i j hmt
 have h0:0≤tr.lab.min:=by omega
 rw [← Sp.spotG_zero]
 rw [← Sp.spotM_zero] at hmt
 refine mThr_4 w0 s t g v nn n a _ i j hn hns hk (mThrT_any w0 s t g v nn n b cap q i j m tr a (okD m mx) ⟨fun _=>by omega,fun _=>by omega⟩ ht hj hn hns hp hb hc hl hm hij hmt (fun d k hd=>Sp.turn_over h0 (by omega)) ?_)
 intro d k hd hkj hmd hmore
 have hd1:d < 1000:=by
  by_cases q':mx=-1
  ·have:=hd.1 q';omega
  ·have:=hd.2 q';omega
 obtain⟨k',hk1,hk2,hk3⟩:=Sp.turn_next h0 hmd (by omega)
 have r:=Sp.greatest_some hk1
 have r3:=r.2.2.1
 rw [Bool.and_eq_true] at r3
 have hnx:(∀ x,Sp.spotM t tr (d+1) x j=Sp.spotM t tr (nextD a d) x j)∧(∀ x,Sp.spotG t tr (d+1) x j=Sp.spotG t tr (nextD a d) x j)∧okD m mx (nextD a d)∧(nextD a d=d+1∨(nextD a d=m∧m≤d)):=by
  by_cases hend:mx=-1
  ·have hdm:=hd.1 hend
   rcases Nat.lt_or_eq_of_le hdm with h|h
   ·have e:nextD a d=d+1:=by unfold nextD;rw [hx,hl];split<;>omega
    rw [e];exact⟨fun _=>rfl,fun _=>rfl,⟨fun _=>by omega,fun h=>absurd hend h⟩,Or.inl rfl⟩
   ·have e:nextD a d=m:=by unfold nextD;rw [hx,hl];split<;>omega
    have e2:=fun x=>Sp.turn_endless (s:=t) (t:=tr) (d:=d+1) h0 (by omega) (by omega) x j
    have em:tr.lab.min.toNat=m:=by omega
    rw [em] at e2
    rw [e];exact⟨fun x=>(e2 x).1,fun x=>(e2 x).2,⟨fun _=>Nat.le_refl _,fun h=>absurd hend h⟩,Or.inr ⟨rfl,by omega⟩⟩
  ·have e:nextD a d=d+1:=by unfold nextD;rw [hx,if_neg hend]
   rw [e]
   refine⟨fun _=>rfl,fun _=>rfl,⟨fun h=>absurd h hend,fun _=>?_⟩,Or.inl rfl⟩
   have hdx:=hd.2 hend
   rcases Int.lt_or_eq_of_le hdx with h|h
   ·omega
   ·exfalso
    have hkj2:k < j:=by
     rcases hmore with h'|h'
     ·rcases hmm with h''|h''<;>omega
     ·exact h'
    have:Sp.spotM t tr d k j=false:=by
     unfold Sp.spotM
     rw [if_pos h0,Sp.turnsD_more _ _ _ _ _ _ (by omega)]
     have e3:Sp.most tr.lab.max=some d:=by unfold Sp.most;rw [if_neg (by omega)];congr 1;omega
     rw [e3];simp;omega
    rw [this] at hmd;cases hmd
 have eb:Sp.bareSem t tr.lab (Sp.sems t tr.kids)=Sp.sem t (bare0 tr):=(bare0_sem t tr).symm
 rw [eb] at hk1 hk2 r3
 have hg:Sp.greatest (fun x=>(Sp.sem t (bare0 tr)).m k x && Sp.spotM t tr (nextD a d) x j) k j=some k':=by
  rw [← hk1];exact Sp.greatest_congr fun x _ _=>by rw [hnx.1]
 refine⟨k',nextD a d,(Sp.sem t (bare0 tr)).g k k',hnx.2.2.1,r.1,r.2.1,?_,by rw [← hnx.1];exact r3.2,by rw [← hnx.2.1];exact hk2,?_⟩
 ·have:=r.1
  have:=r.2.1
  rcases hnx.2.2.2 with h|h<;>omega
 ·exact pieceC w0 s t g v nn n q d k j k' _ a hd1 hn hns (by rw [hl];omega)
   (firstC w0 s t g v nn n q d k j k' tr (bare0 tr) a ht hj hd1 hn hns (by rw [hl];omega) (hP.ends k (by omega)) (fun x _ h8 _=>hE _ x h8 hnx.2.2.1) hg)
   (hP.thr k k' (by omega) r3.1)
theorem all_parts (w0:World) (s:Nat) (g v nn:Nat) (S:Nat→Prop) (t:ByteArray) (ht:t.size≤100) (hS:∀ k,S k→k < s) (N:Int) (hN:N < nn) (hN0:0≤N):∀ (ts:List Tr) (ps:List Nat),NodesAt w0 S ps ts→Sp.Can ts→Few ts→Sp.NumIn 0 N ts→
  ∀ (k p:Nat) (u:Tr),ps[k]?=some p→ts[k]?=some u→Part w0 s t g v nn p u
 | [],_,_,_,_,_,k,p,u,_,h=>by simp at h
 | ⟨a,ks⟩::r,[],hT,_,_,_,_,_,_,_,_=>(NodesAt_no1 hT).elim
 | ⟨a,ks⟩::r,p0::ps,hT,hC,hF,hU,k+1,p,u,h1,h2=>by
  rw [NodesAt_cons] at hT
  rw [Sp.Can_cons] at hC
  unfold Few at hF
  rw [Sp.NumIn_cons] at hU
  exact all_parts w0 s g v nn S t ht hS N hN hN0 r ps hT.2 hC.2.2 hF.2.2 hU.2.2 k p u (by simpa using h1) (by simpa using h2)
 | ⟨a,ks⟩::r,p0::ps,hT,hC,hF,hU,0,p,u,h1,h2=>by
  have hends:=fun i hi=>all_ends w0 s S t ht hS (⟨a,ks⟩::r) (p0::ps) hT hC hF 0 p u h1 h2 i hi
  have hT1:NodesAt w0 S [p0] [⟨a,ks⟩]:=by
   rw [NodesAt_cons] at hT ⊢;exact⟨hT.1,NodesAt_nil _ _⟩
  have hC1:Sp.Can [⟨a,ks⟩]:=by
   rw [Sp.Can_cons] at hC ⊢;exact⟨hC.1,hC.2.1,Sp.Can_nil⟩
  rw [NodesAt_cons] at hT
  rw [Sp.Can_cons] at hC
  unfold Few at hF
  rw [Sp.NumIn_cons] at hU
  simp at h1 h2
  subst h1 h2
  refine⟨hends,?_⟩
  obtain⟨⟨q,l,qs,g1,g2,g3,g4,g5,g6⟩,_⟩:=hT
  have kids:=all_parts w0 s g v nn S t ht hS N hN hN0 ks qs g6 hC.2.1 hF.2.1 hU.2.1
  have hkl:=NodesAt.length qs ks g6
  have hnum:a.num < nn:=by
   have:a.num=0∨(0 < (a.num:Int)∧(a.num:Int)≤N):=hU.1
   omega
  have hTb:NodesAt w0 S [q] [bare0 ⟨a,ks⟩]:=by
   show NodesAt w0 S [q] [⟨{ a with min:=-1,max:=0 },ks⟩]
   rw [NodesAt_cons]
   refine⟨⟨q,l,qs,Or.inl ⟨by show (-1:Int) < 0;omega,rfl⟩,g2,?_,g4,g5,g6⟩,NodesAt_nil _ _⟩
   have e:=psz_bare0 ⟨a,ks⟩
   have:tnOf { a with min:=-1,max:=0 } (psz (bareOf ⟨{ a with min:=-1,max:=0 },ks⟩)) l=tnOf a (psz (bareOf ⟨a,ks⟩)) l:=by
    rw [← e];rfl
   rw [this];exact g3
  have bareE:∀ i,i≤t.size→EndsC w0 s t q (bare0 ⟨a,ks⟩) 0 i:=fun i hi=>
   bare_ends w0 s q S t (bare0 ⟨a,ks⟩) (psz (bareOf ⟨a,ks⟩)) l qs ht hS hTb (bare0_can hC1) g2 g3 (PartsIn.of hS g4 g5) hkl hF.1 (by show (-1:Int) < 0;omega) (fun k p u h1 h2=>(kids k p u h1 h2).ends) i hi
  have bareT:∀ i j,j≤t.size→(Sp.sem t (bare0 ⟨a,ks⟩)).m i j=true→ThrC w0 s t g v nn q ((Sp.sem t (bare0 ⟨a,ks⟩)).g i j) i j:=fun i j hj hm=>
   bare_thr w0 s q g v nn S t (bare0 ⟨a,ks⟩) (psz (bareOf ⟨a,ks⟩)) l qs ht hS hTb (bare0_can hC1) g2 g3 (PartsIn.of hS g4 g5) hkl hF.1 (by show (-1:Int) < 0;omega) hnum kids i j hj hm
  have cl:Sp.CanL a:=hC.1.1
  rcases g1 with ⟨m1,rfl⟩|⟨m1,m2,l',t1,o1,o2⟩
  ·have e:=bare0_same (t:=⟨a,ks⟩) cl m1
   rw [e] at bareT
   exact bareT
  ·have hp:=PartsIn.of (qs:=[q]) hS o1 o2
   rcases hp with ⟨_,h2⟩|⟨b,cap,h1,hb,hc⟩
   ·simp at h2
   ·intro i j hj hm
    refine turns_thr w0 s p0 q b cap g v nn t ⟨a,ks⟩ _ a.min.toNat a.max ht t1 (hS p0 m2) rfl h1 hb (hc 0 q rfl) (by show a.min=_;omega) rfl (by have:=cl.min;omega) cl.max (by have:=cl.mm m1;omega) (by show a.min=_;omega) rfl ?_ ⟨bareE,bareT⟩ i j hj hm
    intro d i' hi' hd
    exact turns_ends w0 s p0 q b cap S t ⟨a,ks⟩ (bare0 ⟨a,ks⟩) _ a.min.toNat a.max ht hS hT1 hC1 t1 (hS p0 m2) rfl h1 hb (hc 0 q rfl) (by show a.min=_;omega) rfl (by have:=cl.min;omega) cl.max (by have:=cl.mm m1;omega)
     (fun d i j=>by unfold Sp.spotM;rw [if_pos m1,bare0_sem]) bareE _ d i' (Nat.lt_succ_self _) hi' hd
theorem Live.start {w0 w:World} {s:Nat} {t:ByteArray} (u:Upd [] w0 w) (hs:s=w0.heap.size) (h:Srch w s t (Right w0 s t)):Live w0 s t w:=
 ⟨fun k hk=>u.block k (by omega) (by simp),h⟩
def UpToOut (w0:World) (s:Nat) (n:Nat) (f:Nat→Int×Int) (w:World) (e:Ending) (w':World):Prop:=
 ∃ g,w.heap.size≤g∧e=.returned (spansV g n)∧SpansAt w' g n f∧Gone s w w'
def TreeC (w0:World) (s:Nat) (t:ByteArray) (nn:Nat) (p:Nat) (u:Tr):Prop:=∀ g v,Part w0 s t g v nn p u
set_option maxHeartbeats 1600000 in
theorem mUpTo_any (w0:World) (s:Nat) (t:ByteArray) (p m to:Nat) (u:Tr) (w:World) (h:Live w0 s t w) (ht:t.size≤100) (hto:to≤t.size) (hm:m≤100) (hT:TreeC w0 s t (m+1) p u) (hmt:(Sp.sem t u).m 0 to=true) :
  Calls Tryz.prog 53 #[ptr s,ptr p,.int .i64 m,.int .i64 to] w (UpToOut w0 s (m+1) (Sp.spansOf ((Sp.sem t u).g 0 to) to) w):=by
 have HL:Hid (Live w0 s t w):=h
 have HT:Hid (TreeC w0 s t (m+1) p u):=hT
 have HM:Hid ((Sp.sem t u).m 0 to=true):=hmt
 have hs:=h.lt
 clear h hT hmt
 unfold ptr
 go_enter Tryz.func53,Tryz.ntmps53
 go_wp2_with fail
 refine (mNowh_any m _ hm).mono ?_
 rintro e w1 ⟨rfl,u1,s1⟩
 have L1:Hid (Live w0 s t w1):=HL.out.grow u1
 have U1:Hid (Upd [] w w1):=u1
 have S1:Hid (SpansAt w1 w.heap.size (m+1) Sp.nowh):=s1
 clear u1 s1
 unfold spansV
 go_wp2_with fail
 refine (mNewW_any s w.heap.size (m+1) _).mono ?_
 rintro e w2 ⟨rfl,u2,k2⟩
 have hz1:=U1.out.size
 have hsp:=lt_of_heap S1.out
 have W2:Hid (Walk w0 s t w.heap.size w1.heap.size (m+1) Sp.nowh w2):=⟨L1.out.grow u2,(u2.block w.heap.size hsp (by simp)).trans S1.out,k2,by omega,by omega,by omega⟩
 have U2:Hid (Upd [] w w2):=U1.out.trans u2
 obtain⟨d0,d1,d2,d3,d4,d5,d6,d7,d8,dz⟩:=k2.facts
 clear u2 k2
 unfold ptr
 go_wp2_with fail
 refine (mPut_any w.heap.size (m+1) 0 0 to Sp.nowh _ W2.out.sp (by omega) (by omega)).mono ?_
 rintro e w3 ⟨rfl,u3,s3⟩
 have W3:Hid (Walk w0 s t w.heap.size w1.heap.size (m+1) (Sp.put Sp.nowh (0,0,to)) w3):=W2.out.put u3 s3
 have G3:Hid (GoneG s w.heap.size w w3):=U2.out.toG.trans u3.putG
 clear u3 s3
 go_wp2_with fail
 refine ((HT.out w.heap.size w1.heap.size).thr 0 to hto HM.out _ _ W3.out).mono ?_
 rintro e w4 ⟨rfl,h4,g4⟩
 have W4:Hid (Walk w0 s t w.heap.size w1.heap.size (m+1) (Sp.puts (Sp.put Sp.nowh (0,0,to)) ((Sp.sem t u).g 0 to)) w4):=h4
 have G4:Hid (GoneG s w.heap.size w w4):=G3.out.trans g4
 clear h4 g4
 go_wp2_with fail
 go_ret
 exact⟨w.heap.size,Nat.le_refl _,rfl,W4.out.sp,⟨G4.out.os,G4.out.tape,G4.out.output,G4.out.size,fun k hk=>G4.out.block k hk (by have:=hk.1;omega)⟩⟩
structure TreeAt (w0:World) (S:Nat→Prop) (p m:Nat) (u:Tr):Prop where
 nodes:NodesAt w0 S [p] [u]
 can:Sp.Can [u]
 few:Few [u]
 num:Sp.NumIn 0 m [u]
theorem TreeAt.c {w0:World} {S:Nat→Prop} {p m:Nat} {u:Tr} (h:TreeAt w0 S p m u) {s:Nat} {t:ByteArray} (ht:t.size≤100) (hS:∀ k,S k→k < s):TreeC w0 s t (m+1) p u:=
 fun g v=>all_parts w0 s g v (m+1) S t ht hS m (by omega) (by omega) [u] [p] h.nodes h.can h.few h.num 0 p u rfl rfl
theorem TreeAt.lt {w0:World} {S:Nat→Prop} {p m:Nat} {u:Tr} (h:TreeAt w0 S p m u):TreeAt w0 (fun k=>S k∧k < w0.heap.size) p m u:=
 ⟨NodesAt.mono _ _ h.nodes (fun k hk hl=>⟨hk,hl⟩),h.can,h.few,h.num⟩
theorem TreeAt.upd {w0 w:World} {S:Nat→Prop} {p m:Nat} {u:Tr} (h:TreeAt w0 S p m u) {l:List Nat} (q:Upd l w0 w) (hl:∀ k,k∈l→¬ S k):TreeAt w S p m u:=⟨h.nodes.upd q hl,h.can,h.few,h.num⟩
def WholeOut (n:Nat) (r:Option (Nat→Int×Int)) (w:World) (e:Ending) (w':World):Prop:=
 Upd [] w w'∧match r with
 | none=>e=.returned (.slice none 0 0)
 | some f=>∃ g,w.heap.size≤g∧e=.returned (spansV g n)∧SpansAt w' g n f
theorem WholeOut.mk_no {n:Nat} {r:Option (Nat→Int×Int)} {w w':World} {e:Ending} (h:r=none) (u:Upd [] w w') (he:e=.returned (.slice none 0 0)):WholeOut n r w e w':=by
 subst h;exact⟨u,he⟩
theorem WholeOut.mk_yes {n:Nat} {r:Option (Nat→Int×Int)} {w w':World} {e:Ending} {f:Nat→Int×Int} (h:r=some f) (u:Upd [] w w') (k:∃ g,w.heap.size≤g∧e=.returned (spansV g n)∧SpansAt w' g n f):WholeOut n r w e w':=by
 subst h;exact⟨u,k⟩
def wholeS (u:Tr) (t:ByteArray):Option (Nat→Int×Int):=if (Sp.sem t u).m 0 t.size then some (Sp.spansOf ((Sp.sem t u).g 0 t.size) t.size) else none
theorem Gone.new {s:Nat} {w w1 w':World} (u:Upd [] w w1) (hs:s=w.heap.size) (g:Gone s w1 w'):Upd [] w w':=
 ⟨g.os.trans u.os,g.tape.trans u.tape,g.output.trans u.output,Nat.le_trans u.size g.size,fun k hk _=>(g.block k ⟨Nat.lt_of_lt_of_le hk u.size,by omega,fun q=>by omega⟩).trans (u.block k hk (by simp))⟩
set_option maxHeartbeats 1600000 in
theorem mWhole_any (S:Nat→Prop) (t:ByteArray) (p m:Nat) (u:Tr) (w:World) (ht:t.size≤100) (hm:m≤100) (hT:TreeAt w S p m u) :
  Calls Tryz.prog 47 #[ptr p,.int .i64 m,.string t] w (WholeOut (m+1) (wholeS u t) w):=by
 have HT:Hid (TreeC w w.heap.size t (m+1) p u):=hT.lt.c ht (fun k hk=>hk.2)
 clear hT
 unfold ptr
 go_enter Tryz.func47,Tryz.ntmps47
 go_wp2_with fail
 refine (mNew_any t _ (Right w w.heap.size t)).mono ?_
 rintro e w1 ⟨rfl,u1,s1⟩
 have L1:Hid (Live w w.heap.size t w1):=Live.start u1 rfl s1
 have U1:Hid (Upd [] w w1):=u1
 clear u1 s1
 unfold ptr
 go_wp2_with fail
 refine ((HT.out 0 0).ends 0 (by omega) _ L1.out).mono ?_
 rintro e w2 ⟨f,rfl,hf,g2,l2⟩
 have L2:Hid (Live w w.heap.size t (w2.alloc (.cells #[.int .u64 (word f 0 64),.int .u64 (word f 64 64)] 137))):=l2.grow (by (repeat (first|exact Upd.refl _ _|refine Upd.drewN ?_|refine Upd.drew ?_|refine Upd.setCell ?_ (by simp) _|refine Upd.alloc ?_ _)))
 have hU2:Upd [] w w2:=Gone.new U1.out rfl g2
 have U2:Hid (Upd [] w (w2.alloc (.cells #[.int .u64 (word f 0 64),.int .u64 (word f 64 64)] 137))):=hU2.trans (by (repeat (first|exact Upd.refl _ _|refine Upd.drewN ?_|refine Upd.drew ?_|refine Upd.setCell ?_ (by simp) _|refine Upd.alloc ?_ _)))
 have P2:Hid (PlAt (w2.alloc (.cells #[.int .u64 (word f 0 64),.int .u64 (word f 64 64)] 137)) w2.heap.size f):=heap_new rfl
 have hf2:f t.size=(Sp.sem t u).m 0 t.size:=by rw [hf t.size (Nat.le_refl _),Sp.spotM_zero]
 have hsz:=g2.size
 have hsz1:=U1.out.size
 have hls:w.heap.size < w2.heap.size:=l2.lt
 clear hf g2 l2 hU2
 unfold plV plCells
 go_wp2_with fail
 refine (mHas_any _ f t.size _ P2.out (by omega)).mono ?_
 rintro e w3 ⟨rfl,hw3⟩
 rw [hw3,hf2]
 clear hw3 w3 hf2
 cases hm2:(Sp.sem t u).m 0 t.size with
 | false=>
  have HR:Hid (wholeS u t=none):=by show _=_;unfold wholeS;rw [hm2];rfl
  clear hm2
  go_wp2_with fail
  go_ret
  exact WholeOut.mk_no HR.out U2.out rfl
 | true=>
  have HR:Hid (wholeS u t=some (Sp.spansOf ((Sp.sem t u).g 0 t.size) t.size)):=by show _=_;unfold wholeS;rw [hm2];rfl
  have HM:Hid ((Sp.sem t u).m 0 t.size=true):=hm2
  clear hm2
  go_wp2_with fail
  refine (mUpTo_any w w.heap.size t p m t.size u _ L2.out ht (Nat.le_refl _) hm HT.out HM.out).mono ?_
  rintro e w4 ⟨g,hg,rfl,hs4,g4⟩
  have H4:Hid (SpansAt w4 g (m+1) (Sp.spansOf ((Sp.sem t u).g 0 t.size) t.size)):=hs4
  have hg':w.heap.size≤g:=by have:(w2.alloc (.cells #[.int .u64 (word f 0 64),.int .u64 (word f 64 64)] 137)).heap.size≤g:=hg;simp at this;omega
  have U4:Hid (Upd [] w w4):=Gone.new U2.out rfl g4
  clear hs4 g4 hg
  unfold spansV
  go_wp2_with fail
  go_ret
  exact WholeOut.mk_yes HR.out U4.out ⟨g,hg',rfl,H4.out⟩
end Go.Proofs.YtcpfpnjkfahjcaaGreat
