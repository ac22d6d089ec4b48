import Derived.Test.YtcpfpnjkfahjcaaGreatH48
import Derived.Test.YtcpfpnjkfahjcaaGreatH40
import Derived.Test.YtcpfpnjkfahjcaaGreatH45
import Derived.Test.YtcpfpnjkfahjcaaGreatH47
set_option linter.unusedSimpArgs false
set_option linter.unusedVariables false
namespace Go.Proofs.YtcpfpnjkfahjcaaGreat
open Go.RowKit
def mRes (st:Option (Tr×Nat)) (S:ByteArray):Nat×(Nat→Int×Int)×Int:=match st with
 | none=>(0,Sp.nowh,1)
 | some (t,n)=>if 100 < S.size then (0,Sp.nowh,2) else match wholeS t S with
  | none=>(0,Sp.nowh,0)
  | some f=>(n+1,f,0)
def PatSt (w:World) (v:Option Addr):Option (Tr×Nat)→Prop
 | none=>v=none
 | some (t,n)=>∃ p,v=some ⟨p,0,none⟩∧PatAt w p t n
def RefSt (w:World) (v:Option Addr) (s:ByteArray):Option (Tr×Nat)→Prop
 | none=>v=none
 | some (t,n)=>∃ p,v=some ⟨p,0,none⟩∧RfPat w p s t n
theorem PatSt.upd {w w':World} {v:Option Addr} {st:Option (Tr×Nat)} (h:PatSt w v st) (u:Upd [] w w'):PatSt w' v st:=by
 cases st with
 | none=>exact h
 | some x=>obtain⟨t,n⟩:=x;obtain⟨p,e,k⟩:=h;exact⟨p,e,k.upd u⟩
theorem RefSt.upd {w w':World} {v:Option Addr} {s:ByteArray} {st:Option (Tr×Nat)} (h:RefSt w v s st) (u:Upd [] w w'):RefSt w' v s st:=by
 cases st with
 | none=>exact h
 | some x=>obtain⟨t,n⟩:=x;obtain⟨p,e,k⟩:=h;exact⟨p,e,k.upd u⟩
theorem spo_nil (w:World) (b:Nat):SpO w b (.slice none 0 0) 0 Sp.nowh:=⟨flat_length 0 _,Or.inl ⟨rfl,rfl⟩⟩
theorem spo_at {w:World} {g n b:Nat} {f:Nat→Int×Int} (h:SpansAt w g n f) (hb:b≤g) (hn:n≤1000):SpO w b (.slice (some ⟨g,0,none⟩) n n) n f:=by
 obtain⟨h1,h2⟩:=SpansAt.own h hn
 refine⟨h1,?_⟩
 rcases h2 with ⟨q,_⟩|⟨g',cap,cur,q,_,e3⟩
 ·cases q
 ·unfold spansV at q
  injection q with q1 q2 q3
  injection q1 with q1
  injection q1 with q1 _ _
  subst q1
  subst q3
  exact Or.inr ⟨g,n,cur,rfl,hb,e3⟩
def MrOut (st:Option (Tr×Nat)) (S:ByteArray) (w:World) (e:Ending) (w':World):Prop:=∃ vl,e=.returned (.tuple #[vl,.int .i64 (mRes st S).2.2])∧SpO w' w.heap.size vl (mRes st S).1 (mRes st S).2.1∧Upd [] w w'
theorem mRes_long {t:Tr} {n:Nat} {S:ByteArray} (h:100 < S.size):mRes (some (t,n)) S=(0,Sp.nowh,2):=by unfold mRes;simp only;rw [if_pos h]
theorem mRes_no {t:Tr} {n:Nat} {S:ByteArray} (h:¬ 100 < S.size) (hr:wholeS t S=none):mRes (some (t,n)) S=(0,Sp.nowh,0):=by unfold mRes;simp only;rw [if_neg h,hr]
theorem mRes_yes {t:Tr} {n:Nat} {S:ByteArray} {f:Nat→Int×Int} (h:¬ 100 < S.size) (hr:wholeS t S=some f):mRes (some (t,n)) S=(n+1,f,0):=by unfold mRes;simp only;rw [if_neg h,hr]
theorem mo_out {t:Tr} {n:Nat} {S:ByteArray} {w w':World} {e:Ending} (h:¬ 100 < S.size) (hn:n≤9) (k:MatchOut (n+1) (wholeS t S) w e w'):MrOut (some (t,n)) S w e w':=by
 obtain⟨u,k⟩:=k
 cases hr:wholeS t S with
 | none=>rw [hr] at k;unfold MrOut;rw [mRes_no h hr];exact⟨_,k,spo_nil _ _,u⟩
 | some f=>rw [hr] at k;obtain⟨g,h1,h2,h3⟩:=k;unfold MrOut;rw [mRes_yes h hr];exact⟨_,h2,spo_at h3 h1 (by omega),u⟩
theorem sMatch_res (v:Option Addr) (st:Option (Tr×Nat)) (S:ByteArray) (w:World) (h:PatSt w v st):Calls Tryz.prog 8 #[.pointer v,.string S] w (MrOut st S w):=by
 cases st with
 | none=>
  have hv:v=none:=h
  subst hv
  refine (sMatch_not none S w (Or.inr rfl)).mono ?_
  rintro e w' ⟨rfl,u⟩
  exact⟨_,rfl,spo_nil _ _,u⟩
 | some x=>
  obtain⟨t,n⟩:=x
  obtain⟨p,rfl,hp⟩:=h
  by_cases hS:100 < S.size
  ·refine (sMatch_not _ S w (Or.inl ⟨p,rfl,hS⟩)).mono ?_
   rintro e w' ⟨rfl,u⟩
   unfold MrOut;rw [mRes_long hS]
   exact⟨_,rfl,spo_nil _ _,u⟩
  ·exact (sMatch_any p t n S w (by omega) hp).mono fun e w' k=>mo_out hS hp.1 k
theorem rMatch_res (v:Option Addr) (s:ByteArray) (st:Option (Tr×Nat)) (S:ByteArray) (w:World) (h:RefSt w v s st):Calls Tryz.prog 9 #[.pointer v,.string S] w (MrOut st S w):=by
 cases st with
 | none=>
  have hv:v=none:=h
  subst hv
  refine (rMatch_nil S w).mono ?_
  rintro e w' ⟨rfl,u⟩
  exact⟨_,rfl,spo_nil _ _,u⟩
 | some x=>
  obtain⟨t,n⟩:=x
  obtain⟨p,rfl,hp⟩:=h
  by_cases hS:100 < S.size
  ·refine (rMatch_long p S w hS).mono ?_
   rintro e w' ⟨rfl,u⟩
   unfold MrOut;rw [mRes_long hS]
   exact⟨_,rfl,spo_nil _ _,u⟩
  ·exact (rMatch_any p n s t S w (by omega) hp).mono fun e w' k=>mo_out hS hp.nine k
theorem mRes_le (st:Option (Tr×Nat)) (S:ByteArray) (h:∀ t n,st=some (t,n)→n≤9):(mRes st S).1≤20:=by
 cases st with
 | none=>exact Nat.zero_le _
 | some x=>
  obtain⟨t,n⟩:=x
  have:=h t n rfl
  unfold mRes;simp only
  split
  ·exact Nat.zero_le _
  ·split
   ·exact Nat.zero_le _
   ·show n+1≤20;omega
set_option maxRecDepth 8000 in
set_option maxHeartbeats 1600000 in
theorem pairM_any (B0 b kS kR:Nat) (m:Int) (vS vN vR vQ:Value) (es rs:List (Value×Int)) (w:World) (p q:Nat) (s:ByteArray) (t:Tr) (n:Nat) (S:ByteArray) (A:BkA B0 w b kS kR m vS vN vR vQ es rs) (P:PatAt w p t n) (Q:RfPat w q s t n) (hB0:B0≤w.heap.size) (hk:kS≤60000000) (hm:0≤m∧m≤60000000):Calls Tryz.prog 19 #[.agg #[.pointer (some ⟨p,0,none⟩),.pointer (some ⟨q,0,none⟩)],.pointer (some ⟨b,0,none⟩),.string S] w fun e w'=>e=.returned (.bool true)∧Bf B0 w w'∧∃ vS' vN' es',BkA B0 w' b (kS+4) kR (m+1) vS' vN' vR vQ es' rs:=by
 have HA:Hid (BkA B0 w b kS kR m vS vN vR vQ es rs):=A
 have HP:Hid (PatSt w (some ⟨p,0,none⟩) (some (t,n))):=⟨p,rfl,P⟩
 have HQ:Hid (RefSt w (some ⟨q,0,none⟩) s (some (t,n))):=⟨q,rfl,Q⟩
 have HL:Hid ((mRes (some (t,n)) S).1≤20):=mRes_le _ _ (fun t' n' e=>by injection e with e;injection e with _ e;rw [← e];exact Q.nine)
 have HB0:Hid (B0≤w.heap.size):=hB0
 clear A P Q hB0
 obtain⟨st,hst⟩:∃ st,st=some (t,n):=⟨_,rfl⟩
 rw [← hst] at HP HQ HL
 clear hst
 go_enter Tryz.func19,Tryz.ntmps19
 go_wp2_with fail
 have U1:Hid (Upd [] w (w.alloc (.cells #[.pointer (some ⟨p,0,none⟩),.pointer (some ⟨q,0,none⟩)] 51))):=Upd.alloc (Upd.refl _ _) _
 have X1:Hid ((w.alloc (.cells #[.pointer (some ⟨p,0,none⟩),.pointer (some ⟨q,0,none⟩)] 51)).heap[w.heap.size]?=some (.cells #[.pointer (some ⟨p,0,none⟩),.pointer (some ⟨q,0,none⟩)] 51 (0,0))):=heap_new rfl
 generalize hX:w.heap.size=X at *
 generalize w.alloc (.cells #[.pointer (some ⟨p,0,none⟩),.pointer (some ⟨q,0,none⟩)] 51)=w1 at *
 refine (sMatch_res (some ⟨p,0,none⟩) st S _ (HP.out.upd U1.out)).mono ?_
 rintro e w2 ⟨v2,rfl,o2,u2⟩
 have HO2:Hid (SpO w2 w1.heap.size v2 (mRes st S).1 (mRes st S).2.1):=o2
 have U2:Hid (Upd [] w w2):=U1.out.trans u2
 have x1:w2.cell? ⟨X,1,none⟩=some (.pointer (some ⟨q,0,none⟩)):=by
  have h:=(u2.block X (lt_of_heap X1.out) (by simp)).trans X1.out
  rw [World.cell?,h];rfl
 clear o2 u2
 go_wp2_with fail
 refine (rMatch_res (some ⟨q,0,none⟩) s st S _ (HQ.out.upd U2.out)).mono ?_
 rintro e w3 ⟨v3,rfl,o3,u3⟩
 have HO3:Hid (SpO w3 w1.heap.size v2 (mRes st S).1 (mRes st S).2.1):=HO2.out.upd u3 (by simp)
 have HQ3:Hid (SpL w3 v3 (mRes st S).1 (mRes st S).2.1):=o3.l
 have U3:Hid (Upd [] w w3):=U2.out.trans u3
 clear o3 u3 x1
 go_wp2_with fail
 refine (same_any v2 v3 _ _ _ _ _ HO3.out.l HQ3.out (by have:=HL.out;omega) (by have:=HL.out;omega)).mono ?_
 rintro e w4 ⟨rfl,q4,rfl⟩
 rw [sameB_self]
 have HO4:Hid (SpO (w3.drewN q4) w1.heap.size v2 (mRes st S).1 (mRes st S).2.1):=HO3.out.upd (drewN_upd [] _ _) (by simp)
 have U4:Hid (Upd [] w (w3.drewN q4)):=U3.out.trans (drewN_upd [] _ _)
 generalize w3.drewN q4=w4 at *
 have HA4:Hid (BkA B0 w4 b kS kR m vS vN vR vQ es rs):=HA.out.upd0 U4.out
 have HS4:Hid (SpO w4 B0 v2 (mRes st S).1 (mRes st S).2.1):=by
  have h1:=U1.out.size
  have h2:=HB0.out
  refine⟨HO4.out.1,?_⟩
  rcases HO4.out.2 with e|⟨g,cap,cur,e1,e2,e3⟩
  ·exact Or.inl e
  ·exact Or.inr ⟨g,cap,cur,e1,by omega,e3⟩
 have HF4:Hid (∀ x∈es,∀ g,v2.ownBlock=some g→x.1.ownBlock≠some g):=fun x hx g hg he=>by
  have h1:=((HA.out.S.ent x hx).tyI he).lt
  have h2:=(ownBlock_lt HO4.out hg).2
  have h3:=U1.out.size
  omega
 go_wp2_with fail
 refine (aSpans_any B0 b kS kR m vS vN vR vQ es rs _ v2 _ _ HA4.out HS4.out HF4.out (by have:=U4.out.size;have:=HB0.out;omega) HL.out hk hm).mono ?_
 rintro e w5 ⟨yS,yN,es5,rfl,A5,u5,_,_,_⟩
 have HA5:Hid (BkA B0 w5 b (kS+4) kR (m+1) yS yN vR vQ es5 rs):=A5
 have HF5:Hid (Bf B0 w w5):=(Bf.of0 U4.out).trans (aSpans_bf HA4.out HS4.out u5)
 clear A5 u5
 go_wp2_with fail
 go_ret
 exact⟨rfl,HF5.out,yS,yN,es5,HA5.out⟩
set_option maxRecDepth 8000 in
set_option maxHeartbeats 1600000 in
theorem nobody_any (S:ByteArray) (n:Int) (w:World):Calls Tryz.prog 20 #[.string S,.int .i64 n] w fun e w'=>e=.returned (.bool true)∧Upd [] w w':=by
 go_enter Tryz.func20,Tryz.ntmps20
 go_wp2_with fail
 refine (sGroups_nil w).mono ?_
 rintro e w1 ⟨rfl,u1⟩
 have U1:Hid (Upd [] w w1):=by rw [u1];exact Upd.refl _ _
 clear u1
 go_wp2_with fail
 refine (sMatch_not none S w1 (Or.inr rfl)).mono ?_
 rintro e w2 ⟨rfl,u2⟩
 have U2:Hid (Upd [] w w2):=U1.out.trans u2
 clear u2
 go_wp2_with fail
 refine (sLongest_not none S w2 (Or.inr rfl)).mono ?_
 rintro e w3 ⟨rfl,u3⟩
 have U3:Hid (Upd [] w w3):=U2.out.trans u3
 clear u3
 go_wp2_with fail
 refine (sOpen_nil n w3).mono ?_
 rintro e w4 ⟨rfl,u4⟩
 have U4:Hid (Upd [] w w4):=U3.out.trans u4
 clear u4
 go_wp2_with fail
 go_ret
 exact⟨rfl,U4.out⟩
def DoOut (B0 b kS kR:Nat) (n:Int) (d:Nat) (o:Option Tw) (w:World) (e:Ending) (w':World):Prop:=
 e=.returned (.bool true)∧Sf B0 (blkO o) w w'∧(∃ o',TwTo B0 w o o' d w')∧∃ kS' kR' n' vS vN vR vQ es rs,(kS'≤kS+4 * d+8∧kR'≤kR+4∧0≤n'∧n'≤n+d+2)∧BkA B0 w' b kS' kR' n' vS vN vR vQ es rs
theorem mkIn (m:Nat) (hm:m≤2000000) (w:World):(Instr.makeSlice 97 (.int .i64 ((m:Int)+8)) (.int .i64 ((m:Int)+8))).run Tryz.prog w=.ok (.slice (some ⟨w.heap.size,0,none⟩) (m+8) (m+8)) (w.alloc (.cells ((List.replicate (m+8) (0:UInt8)).map byteV).toArray 5)):=by
 obtain⟨i,h1,h2,h3,h4⟩:=pInfoU8
 have:=run_make w 97 5 i _ Tryz.underlying97 h1 h2 .i64 .i64 ((m:Int)+8) ((m:Int)+8) (by omega) (by omega) (by rw [h4];omega) (by omega)
 have e:(((m:Int)+8).toNat)=m+8:=by omega
 rw [this,h3,e,Nat.mul_one]
 have e2:madeCells (Value.int .u8 0).cells (m+8)=((List.replicate (m+8) (0:UInt8)).map byteV).toArray:=by
  apply Array.toList_inj.mp
  have:=toList_madeCells_one (.int .u8 0) (m+8)
  have hc:(Value.int .u8 0).cells=#[.int .u8 0]:=rfl
  rw [hc,this,List.map_replicate];rfl
 rw [e2]
theorem copy_in {w:World} (g n cap:Nat) (ty:TypeId) (S:ByteArray) (L:List UInt8) (hI:InAt w g L) (hl:S.size≤n) (hL:S.size≤L.length):∃ w',(Builtin.copy_ #[97,9] ty #[.slice (some ⟨g,0,none⟩) n cap,.string S]).run Tryz.prog w=.ok (goInt S.size) w'∧InAt w' g (S.data.toList++L.drop S.size)∧Upd [g] w w':=by
 obtain⟨i,h1,h2,h3,h4⟩:=pInfoU8
 refine⟨_,run_copy_str w 97 9 ty 5 g n cap S _ 5 Tryz.underlying97 (by rw [h1];simp [h3]) hI hl (by simpa using hL),?_,?_⟩
 ·have e:=setRow_heap w g _ ((S.data.toList.map byteV)++((L.map byteV).toArray.toList.drop S.size)).toArray 5 _ hI
  show _=_
  rw [e]
  simp [List.map_drop]
 ·exact⟨rfl,rfl,rfl,by simp [World.setRow],fun k hk hn=>setRow_other w g k _ (by simpa using hn)⟩
theorem RecsAt.low {w w':World} {b n:Nat} {v:Value} {rs:List Sp.Rec} (h:RecsAt w b v n rs) {l:List Nat} (u:Upd l w w') (hl:∀ k,k∈l→k < b):RecsAt w' b v n rs:=by
 obtain⟨xs,hi,h1,h2,h3⟩:=h.ex
 exact⟨xs,hi,ownsRow_same h1 (fun k hk hlt=>u.block k hlt (fun hm=>by have:=hl k hm;have:=(ownBlock_lt h1 hk).2;omega)),h2.keepT u (fun k hk=>Or.inl (hl k hk)),Nat.le_trans h3 u.size⟩
theorem blkO_lt {B0:Nat} {w:World} {o:Option Tw} (h:TwO B0 w o):∀ k,k∈blkO o→k < w.heap.size:=fun k hk=>by
 cases o with
 | none=>cases hk
 | some x=>exact (TwAt.lt h k hk).2.1
theorem blkO_ty {B0:Nat} {w:World} {o:Option Tw} (h:TwO B0 w o):LTy strT w (blkO o):=fun k hk=>by
 cases o with
 | none=>cases hk
 | some x=>exact (TwAt.lt h k hk).2.2
structure F2 (Z m:Nat) (K:List UInt8) (w9:World) (gn:Nat) (vs vi:Value) (wr:World):Prop where
 st:∃ c:Nat,vi=.int .i64 c∧vs=.bool true∧c+gn=m+8∧InAt wr Z (List.replicate c (78:UInt8)++(K++List.replicate 8 (77:UInt8)).drop c)∧Upd [Z] w9 wr
theorem look_get {D:List UInt8} {c:Nat}:(List.replicate c (78:UInt8)++D.drop c)[c]?=D[c]?:=by
 rw [List.getElem?_append_right (by simp),List.length_replicate,Nat.sub_self,List.getElem?_drop,Nat.add_zero]
theorem look_set {D:List UInt8} {c:Nat} (h:c < D.length):(List.replicate c (78:UInt8)++D.drop c).set c 78=List.replicate (c+1) (78:UInt8)++D.drop (c+1):=by
 rw [List.set_append_right _ _ (by simp),List.length_replicate,Nat.sub_self,List.drop_eq_getElem_cons h,List.set_cons_zero,List.replicate_succ',List.append_assoc]
 rfl
structure F1 (Z m:Nat) (K:List UInt8) (w3:World) (gn:Nat) (vi:Value) (wr:World):Prop where
 st:∃ c:Nat,vi=.int .i64 (m+c:Nat)∧c+gn=8∧InAt wr Z (K++(List.replicate c (77:UInt8)++List.replicate (8 - c) (0:UInt8)))∧Upd [Z] w3 wr
theorem fill_set {K:List UInt8} {m c:Nat} (hK:K.length=m) (hc:c < 8):(K++(List.replicate c (77:UInt8)++List.replicate (8 - c) (0:UInt8))).set (m+c) 77=K++(List.replicate (c+1) (77:UInt8)++List.replicate (8 - (c+1)) (0:UInt8)):=by
 subst hK
 obtain⟨d,hd⟩:∃ d,8 - c=d+1:=⟨7 - c,by omega⟩
 have e:8 - (c+1)=d:=by omega
 rw [hd,e,List.set_append_right _ _ (by omega),show K.length+c - K.length=c by omega,List.set_append_right _ _ (by simp),List.length_replicate,Nat.sub_self,List.replicate_succ,List.set_cons_zero,List.replicate_succ',List.append_assoc]
 rfl
theorem fill_get {K:List UInt8} {m c:Nat} (hK:K.length=m) (hc:c < 8):(K++(List.replicate c (77:UInt8)++List.replicate (8 - c) (0:UInt8)))[m+c]?=some 0:=by
 subst hK
 rw [List.getElem?_append_right (by omega),show K.length+c - K.length=c by omega,List.getElem?_append_right (by simp),List.length_replicate,Nat.sub_self,List.getElem?_replicate,if_pos (by omega)]
theorem own_base {w:World} {b b' n z:Nat} {T:TypeId} {v:Value} {xs:List Value} (h:w.ownsRow b T z v n xs) (hb:b'≤b):w.ownsRow b' T z v n xs:=by
 obtain⟨h1,h2⟩:=h
 refine⟨h1,?_⟩
 rcases h2 with q|⟨g,cap,cur,e1,e2,e3⟩
 ·exact Or.inl q
 ·exact Or.inr ⟨g,cap,cur,e1,Nat.le_trans hb e2,e3⟩
theorem feedsEnd {B0:Nat} {w w8 wr:World} {b kS kR nn hi L0 X m:Nat} {n:Int} {vS vN vR vQ v:Value} {es rs:List (Value×Int)} {o o8:Option Tw} {rc:List Sp.Rec} {xs:List Value}
  (A:BkA B0 w b kS kR n vS vN vR vQ es rs) (hw:TwO B0 w o) (hX:w.heap.size=X) (AR:BkA B0 wr b kS kR n vS vN vR vQ es rs) (O:wr.ownsRow L0 94 5 v rc.length xs) (R:RecsL wr nn hi L0 rc xs) (hhi:hi≤wr.heap.size) (hXL:X+1 < L0) (hnn:nn≤20) (hrl:rc.length≤m) (hB0:B0≤X) (hm:m≤1048576) (hk:kS≤40000000) (hkR:kR≤40000000) (hn:0≤n∧n≤40000000)
  (UZ:Upd ((X+1)::blkO o) w wr) (T8:TwTo B0 w o o8 m w8) (T8b:X+1∉blkO o8) (S8:Sf B0 [X+1] w8 wr) (L8:LTy strT w8 [X+1]) :
  Calls Tryz.prog 40 #[.pointer (some ⟨b,0,none⟩),v] wr fun e w'=>e=.returned (.tuple #[])∧DoOut B0 b kS kR n m o w (.returned (.bool true)) w':=by
 have hlt:∀ y:Value,(∀ g,y.ownBlock=some g→g < w.heap.size)→Out L0 wr.heap.size y:=fun y hy g hg=>Or.inl (by have:=hy g hg;omega)
 have hbl:=lt_of_heap A.S.cell
 refine (bRecords_any B0 b kS kR nn hi L0 rc.length n vS vN vR vQ v es rs xs rc wr AR (own_base O (by omega)) R rfl ⟨by omega,hlt _ (fun g hg=>(ownBlock_lt A.S.s hg).1),hlt _ (fun g hg=>(ownBlock_lt A.S.n hg).1),fun x hx=>hlt _ (fun g hg=>((A.S.ent x hx).tyI hg).lt)⟩ (fun x hx g hg hv=>?_) ⟨by omega,hhi⟩ (by have:=UZ.size;omega) hnn (by omega) (by omega) (by omega) ⟨hn.1,by omega⟩).mono ?_
 ·have h1:=((A.ent x hx).tyI hg).lt
  have h2:=(ownBlock_lt O hv).2
  omega
 ·rintro e w' ⟨yS,yN,yR,yQ,es',rs',rfl,A',F'⟩
  refine⟨rfl,rfl,?_,⟨o8,⟨?_,T8.row,T8.blk,T8.len⟩⟩,_,_,_,yS,yN,yR,yQ,es',rs',⟨by omega,by omega,by omega,by omega⟩,A'⟩
  ·refine ((Sf.refl B0 (blkO o) w).new (Sf.of UZ) (fun q hq=>?_)).trans (Sf.bf F')
   rcases List.mem_cons.mp hq with e|e
   ·exact Or.inr (by omega)
   ·exact Or.inl e
  ·have h8:=T8.at'
   revert h8 T8b
   cases o8 with
   | none=>intros;trivial
   | some x=>exact fun T8b h8=>TwAt.keep h8 (S8.trans (Sf.bf F')) L8 (fun k hk hm=>by have e:k=X+1:=(by simpa using hm);subst e;exact T8b hk)
set_option maxRecDepth 8000 in
set_option maxHeartbeats 3200000 in
theorem feeds_any (B0 b kS kR:Nat) (n:Int) (vS vN vR vQ:Value) (es rs:List (Value×Int)) (o:Option Tw) (S:ByteArray) (w:World) (A:BkA B0 w b kS kR n vS vN vR vQ es rs) (hw:TwO B0 w o) (hS:S.size≤1048576) (hsz:∀ x,o=some x→x.A.size+S.size≤1048576) (hB0:B0≤w.heap.size) (hk:kS≤40000000) (hkR:kR≤40000000) (hn:0≤n∧n≤40000000):Calls Tryz.prog 36 #[.agg #[.pointer (xO o),.pointer (rO o)],.pointer (some ⟨b,0,none⟩),.string S] w (DoOut B0 b kS kR n S.size o w):=by
 have HA:Hid (BkA B0 w b kS kR n vS vN vR vQ es rs):=A
 have HW:Hid (TwO B0 w o):=hw
 have HSZ:Hid (∀ x,o=some x→x.A.size+S.size≤1048576):=hsz
 have HB0:Hid (B0≤w.heap.size):=hB0
 obtain⟨m,hm⟩:∃ m,S.size=m:=⟨_,rfl⟩
 have HM:Hid (S.size=m):=hm
 clear A hw hsz hB0
 obtain⟨ZA,hZA⟩:∃ x,x=((List.replicate (m+8) (0:UInt8)).map byteV).toArray:=⟨_,rfl⟩
 have hmk:=mkIn m (by omega)
 rw [← hZA] at hmk
 have I2:Hid (InAt ((w.alloc (.cells #[.pointer (xO o),.pointer (rO o)] 55)).alloc (.cells ZA 5)) (w.heap.size+1) (List.replicate (m+8) (0:UInt8))):=by rw [hZA];exact heap_new (by show w.heap.size+1=(w.heap.push _).size;simp)
 have X2:Hid (((w.alloc (.cells #[.pointer (xO o),.pointer (rO o)] 55)).alloc (.cells ZA 5)).heap[w.heap.size]?=some (.cells #[.pointer (xO o),.pointer (rO o)] 55 (0,0))):=(Below.heap_alloc _ _ _ (by show w.heap.size < (w.heap.push _).size;simp)).trans (heap_new rfl)
 have U2:Hid (Upd [] w ((w.alloc (.cells #[.pointer (xO o),.pointer (rO o)] 55)).alloc (.cells ZA 5))):=Upd.alloc (Upd.alloc (Upd.refl _ _) _) _
 clear hZA
 obtain⟨w3,hcpy,i3,u3⟩:=copy_in (w.heap.size+1) (m+8) (m+8) 3 S (List.replicate (m+8) (0:UInt8)) I2.out (by omega) (by rw [List.length_replicate];omega)
 have I3:Hid (InAt w3 (w.heap.size+1) (S.data.toList++List.replicate 8 (0:UInt8))):=by
  show InAt _ _ _
  rw [HM.out,List.drop_replicate,show m+8 - m=8 by omega] at i3
  exact i3
 have X3:Hid (w3.heap[w.heap.size]?=some (.cells #[.pointer (xO o),.pointer (rO o)] 55 (0,0))):=(u3.block _ (lt_of_heap X2.out) (by simp)).trans X2.out
 have U3:Hid (Upd [] w w3):=U2.out.hide u3 (by omega)
 clear i3 u3 I2 X2 U2
 go_enter Tryz.func36,Tryz.ntmps36
 go_wp2_with fail
 clear hmk hcpy
 generalize hX:w.heap.size=X at *
 have hKl:S.data.toList.length=m:=by rw [Array.length_toList];exact HM.out
 have HKL:Hid (S.data.toList.length=m):=hKl
 clear hKl
 go_loopg [8] 8 (fun gn vi wr=>F1 (X+1) m S.data.toList w3 gn vi wr)
 case atStart=>exact⟨0,rfl,by omega,by simpa using I3.out,Upd.refl _ _⟩
 case round=>
  obtain⟨c,hvi,hcg,hI,hU⟩:=hrel.st
  subst hvi
  have GI:Hid (InAt wr (X+1) (S.data.toList++(List.replicate c (77:UInt8)++List.replicate (8 - c) (0:UInt8)))):=hI
  have GU:Hid (Upd [X+1] w3 wr):=hU
  clear hI hU hrel
  by_cases hlt:c < 8
  ·have hlt':((m+c:Nat):Int) < ((m+8:Nat):Int):=by omega
   obtain⟨gm,hgm⟩:∃ x,gk=x+1:=⟨gk - 1,by omega⟩
   have hcell:=GI.out.cell (fill_get HKL.out hlt)
   have hfz:=GI.out.fz
   have hlm:m+c < m+8:=by omega
   have RL:Hid (F1 (X+1) m S.data.toList w3 gm (.int .i64 (m+c+1:Nat)) (wr.setCell ⟨X+1,m+c,none⟩ (.int .u8 77))):=by
    refine⟨c+1,rfl,by omega,?_,GU.out.trans (Upd.setCell (Upd.refl _ _) (by simp) _)⟩
    rw [← fill_set HKL.out hlt]
    exact GI.out.set 77
   obtain⟨I,hI⟩:∃ I,I=m+c:=⟨_,rfl⟩
   rw [← hI] at RL hcell hlm hlt' ⊢
   clear hI
   go_wp2_with fail
   go_roundg gm
   case measure=>omega
   case rel=>exact RL.out
  ·have hlt':¬ ((m+c:Nat):Int) < ((m+8:Nat):Int):=by omega
   have hc8:c=8:=by omega
   subst hc8
   have I5:Hid (InAt wr (X+1) (S.data.toList++List.replicate 8 (77:UInt8))):=by
    have h:=GI.out
    rw [Nat.sub_self,List.replicate_zero,List.append_nil] at h
    exact h
   have U5:Hid (Upd [] w wr):=U3.out.hide GU.out (by omega)
   have X5:Hid (wr.heap[X]?=some (.cells #[.pointer (xO o),.pointer (rO o)] 55 (0,0))):=(GU.out.block X (lt_of_heap X3.out) (by simp)).trans X3.out
   have x0:wr.cell? ⟨X,0,none⟩=some (.pointer (xO o)):=by rw [World.cell?,X5.out];rfl
   clear GI GU I3 U3 X3
   have UD:Hid (Upd [] w wr.drew):=Upd.drew U5.out
   have hxb:Hid (X+1∉blkO o):=fun hm=>by
    cases o with
    | none=>cases hm
    | some x=>have h1:=(TwAt.lt HW.out _ hm).2.1;omega
   obtain⟨nn,rc,code,hnn,hrl,FP⟩:=feedP B0 o S.data.toList wr.drew (X+1) (m+8) (HW.out.keep0 UD.out) (InAt.bytes (L:=List.replicate 8 (77:UInt8)) I5.out) (lt_of_heap I5.out) hxb.out (by rw [HKL.out];omega) (fun x hx=>by rw [HKL.out,← HM.out];exact HSZ.out x hx)
   rw [HKL.out] at FP hrl
   go_wp2_with fail
   go_region_with (go_at_call 31;refine FP.mono ?_;rintro e w6 ⟨v6,rfl,V6,u6,NX⟩)
   all_goals
    have V6':Hid (RecsAt w6 wr.heap.size v6 nn rc):=V6
    have U6:Hid (Upd (blkO o) wr w6):=(Upd.drew (Upd.refl _ _)).trans u6
    have NX':Hid (∀ w7 b2 cp2,Upd [] w6 w7→BytesAt w7 b2 0 S.data.toList→Calls Tryz.prog 57 #[.pointer (rO o),.slice (some ⟨b2,0,none⟩) m cp2] w7 fun e w8=>∃ v2,e=.returned (.tuple #[v2,.int .i64 code])∧RecsAt w8 w7.heap.size v2 nn rc∧Upd (blkO o) w7 w8∧∃ o',TwTo B0 wr.drew o o' m w8):=NX
    have hXb:X∉blkO o:=fun hm=>by
     cases o with
     | none=>cases hm
     | some x=>have h1:=(TwAt.lt HW.out _ hm).2.1;omega
    have X6:Hid (w6.heap[X]?=some (.cells #[.pointer (xO o),.pointer (rO o)] 55 (0,0))):=(U6.out.block X (lt_of_heap X5.out) hXb).trans X5.out
    have I6:Hid (InAt w6 (X+1) (S.data.toList++List.replicate 8 (77:UInt8))):=I5.out.upd U6.out hxb.out
    have x1:w6.cell? ⟨X,1,none⟩=some (.pointer (rO o)):=by rw [World.cell?,X6.out];rfl
    obtain⟨va,vc,hv,hvc⟩:=V6.slice
    subst hv
    obtain⟨cp7,w7,hcv,hcp7,b7,u7,hz7⟩:=toBytes S w6
    rw [HM.out] at hcv
    have B7:Hid (BytesAt w7 w6.heap.size 0 S.data.toList):=b7
    have U7:Hid (Upd [] w6 w7):=u7
    clear V6 u6 NX hXb x0 FP b7 u7
    go_wp2_with fail
    refine (NX'.out w7 w6.heap.size cp7 U7.out B7.out).mono ?_
    rintro e w8 ⟨v8,rfl,V8,u8,o8,T8⟩
    have V8':Hid (RecsAt w8 w7.heap.size v8 nn rc):=V8
    have U8:Hid (Upd (blkO o) w7 w8):=u8
    obtain⟨L0,hL0⟩:∃ x,x=wr.heap.size:=⟨_,rfl⟩
    have hXL:X+1 < L0:=by rw [hL0];exact lt_of_heap I5.out
    have T8':Hid (TwTo B0 w o o8 m w8):=⟨T8.at',T8.row,fun k hk=>(T8.blk k hk).imp id (fun h=>Nat.le_trans U5.out.size h),T8.len⟩
    have T8b:Hid (X+1∉blkO o8):=fun hm=>(T8.blk _ hm).elim hxb.out (fun h=>by have h2:wr.heap.size≤X+1:=h;omega)
    have UA:Hid (Upd (blkO o) w w8):=(((U5.out.mono (by simp)).trans U6.out).trans (U7.out.mono (by simp))).trans u8
    have V9:Hid (RecsAt w8 L0 (.slice va rc.length vc) nn rc):=by
     show RecsAt _ _ _ _ _
     rw [hL0]
     exact (V6'.out.upd U7.out).low u8 (fun k hk=>by have:=blkO_lt HW.out k hk;have:=U5.out.size;omega)
    have HA8:Hid (BkA B0 w8 b kS kR n vS vN vR vQ es rs):=HA.out.upd UA.out (blkO_ty HW.out) bok_str
    have I8:Hid (InAt w8 (X+1) (S.data.toList++List.replicate 8 (77:UInt8))):=(I6.out.upd U7.out (by simp)).upd u8 hxb.out
    obtain⟨vb,vd,hvb,hvd⟩:=V8.slice
    subst hvb
    clear V8 u8 T8 hcv hcp7 x1 hL0
    go_wp2_with fail
    refine (sameR_any _ _ rc _ _ _ nn (by omega) (by omega) V9.out V8'.out).mono ?_
    rintro e w9 ⟨rfl,u9⟩
    have U9:Hid (Upd [] w8 w9):=u9
    have I9:Hid (InAt w9 (X+1) (S.data.toList++List.replicate 8 (77:UInt8))):=I8.out.upd u9 (by simp)
    have L8:Hid (LTy strT w8 [X+1]):=LTy.cons I8.out.ty rfl (LTy.nil _ _)
    clear u9 I8 I6 V8' X6 NX'
    go_wp2_with fail
    have HDL:Hid ((S.data.toList++List.replicate 8 (77:UInt8)).length=m+8):=by show _=_;rw [List.length_append,HKL.out,List.length_replicate]
    go_loopg [13,14] (m+8) (fun gn vs vi wr=>F2 (X+1) m S.data.toList w9 gn vs vi wr)
    case atStart=>exact⟨0,rfl,rfl,by omega,by simpa using I9.out,Upd.refl _ _⟩
    case round=>
     obtain⟨c,hvi,hvs,hcg2,hI2,hU2⟩:=hrel.st
     subst hvi hvs
     have GI:Hid (InAt wr (X+1) (List.replicate c (78:UInt8)++(S.data.toList++List.replicate 8 (77:UInt8)).drop c)):=hI2
     have GU:Hid (Upd [X+1] w9 wr):=hU2
     clear hI2 hU2 hrel
     by_cases hlt2:c < m+8
     ·obtain⟨gm,hgm⟩:∃ x,gk=x+1:=⟨gk - 1,by omega⟩
      have hlt2':(c:Int) < ((m+8:Nat):Int):=by omega
      have hfz:=GI.out.fz
      have RL:Hid (InAt (wr.setCell ⟨X+1,c,none⟩ (.int .u8 78)) (X+1) (List.replicate (c+1) (78:UInt8)++(S.data.toList++List.replicate 8 (77:UInt8)).drop (c+1))):=by
       rw [← look_set (by rw [HDL.out];exact hlt2)]
       exact GI.out.set 78
      by_cases hcm:c < m
      ·have hcm':(c:Int) < m:=by omega
       have hcs:c < S.size:=by rw [HM.out];exact hcm
       have hx:(S.data.toList++List.replicate 8 (77:UInt8))[c]?=some (S[c]):=by
        rw [List.getElem?_append_left (by rw [HKL.out];exact hcm),Array.getElem?_toList];exact Array.getElem?_eq_getElem _
       have hcell:=GI.out.cell (look_get.trans hx)
       clear hx
       go_wp2_with fail
       go_quiet (fail)
       go_wp2_with fail
       go_roundg gm
       case measure=>omega
       case rel=>exact⟨c+1,rfl,by first|rfl|simp,by omega,RL.out,GU.out.trans (by (repeat (first|exact Upd.refl _ _|refine Upd.drewN ?_|refine Upd.drew ?_|refine Upd.setCell ?_ (by simp) _|refine Upd.alloc ?_ _)))⟩
      ·have hcm':¬ (c:Int) < m:=by omega
       have hx:(S.data.toList++List.replicate 8 (77:UInt8))[c]?=some 77:=by
        rw [List.getElem?_append_right (by rw [HKL.out];omega),HKL.out,List.getElem?_replicate,if_pos (by omega)]
       have hcell:=GI.out.cell (look_get.trans hx)
       clear hx
       go_wp2_with fail
       go_quiet (fail)
       go_wp2_with fail
       go_roundg gm
       case measure=>omega
       case rel=>exact⟨c+1,rfl,by first|rfl|simp,by omega,RL.out,GU.out.trans (by (repeat (first|exact Upd.refl _ _|refine Upd.drewN ?_|refine Upd.drew ?_|refine Upd.setCell ?_ (by simp) _|refine Upd.alloc ?_ _)))⟩
     ·have hlt2':¬ (c:Int) < ((m+8:Nat):Int):=by omega
      have UZ:Hid (Upd ((X+1)::blkO o) w wr):=((UA.out.mono (by simp;exact fun k h=>Or.inr h)).trans (U9.out.mono (by simp))).trans (GU.out.mono (by simp))
      have LZ:LTy strT w9 [X+1]:=LTy.cons I9.out.ty rfl (LTy.nil _ _)
      have HAR:Hid (BkA B0 wr b kS kR n vS vN vR vQ es rs):=(HA8.out.upd0 U9.out).upd GU.out LZ bok_str
      have VR:RecsAt wr L0 (.slice va rc.length vc) nn rc:=(V9.out.upd U9.out).low GU.out (fun k hk=>by have e:k=X+1:=(by simpa using hk);omega)
      obtain⟨xs,hi,O1,R1,hhi⟩:=VR.ex
      have HOUT:=feedsEnd HA.out HW.out hX HAR.out O1 R1 hhi hXL hnn hrl (by have:=HB0.out;omega) (by omega) hk hkR hn UZ.out T8'.out T8b.out (((Sf.of (U9.out.mono (by simp))).trans (Sf.of GU.out)):Sf B0 [X+1] w8 wr) L8.out
      clear VR O1 R1 hhi LZ
      go_wp2_with fail
      refine HOUT.mono ?_
      rintro e w10 ⟨rfl,H10⟩
      have HD:Hid (DoOut B0 b kS kR n m o w (.returned (.bool true)) w10):=H10
      clear HOUT H10
      go_wp2_with fail
      go_ret
      rw [HM.out]
      exact HD.out
theorem DoOut.pre {B0 b kS kR d:Nat} {n:Int} {o:Option Tw} {w w1 w':World} {e:Ending} (h:DoOut B0 b kS kR n d o w1 e w') (u:Upd [] w w1):DoOut B0 b kS kR n d o w e w':=by
 obtain⟨h1,h2,⟨o',T⟩,h4⟩:=h
 exact⟨h1,(Sf.of (u.mono (by simp))).trans h2,⟨o',T.at',T.row,fun k hk=>(T.blk k hk).imp id (fun q=>Nat.le_trans u.size q),T.len⟩,h4⟩
theorem DoOut.none {B0 b kS kR d:Nat} {n:Int} {vS vN vR vQ:Value} {es rs:List (Value×Int)} {o:Option Tw} {w w':World} (A:BkA B0 w b kS kR n vS vN vR vQ es rs) (hw:TwO B0 w o) (hn:0≤n) (u:Upd [] w w'):DoOut B0 b kS kR n d o w (.returned (.bool true)) w':=
 ⟨rfl,Sf.of (u.mono (by simp)),⟨o,TwTo.same (hw.keep0 u) u.size⟩,kS,kR,n,vS,vN,vR,vQ,es,rs,⟨by omega,by omega,hn,by omega⟩,A.upd0 u⟩
theorem closesEnd {B0:Nat} {w w8 wr:World} {b kS kR nn hi L0:Nat} {n:Int} {vS vN vR vQ v:Value} {es rs:List (Value×Int)} {o o8:Option Tw} {rc:List Sp.Rec} {xs:List Value}
  (A:BkA B0 w b kS kR n vS vN vR vQ es rs) (hw:TwO B0 w o) (AR:BkA B0 wr b kS kR n vS vN vR vQ es rs) (O:wr.ownsRow L0 94 5 v rc.length xs) (R:RecsL wr nn hi L0 rc xs) (hhi:hi≤wr.heap.size) (hXL:w.heap.size≤L0) (hnn:nn≤20) (hrl:rc.length≤1) (hB0:B0≤w.heap.size) (hk:kS≤40000000) (hkR:kR≤40000000) (hn:0≤n∧n≤40000000)
  (UZ:Upd (blkO o) w wr) (T8:TwTo B0 w o o8 0 w8) (S8:Upd [] w8 wr) (d:Nat) :
  Calls Tryz.prog 40 #[.pointer (some ⟨b,0,none⟩),v] wr fun e w'=>e=.returned (.tuple #[])∧DoOut B0 b kS kR n d o w (.returned (.bool true)) w':=by
 have hlt:∀ y:Value,(∀ g,y.ownBlock=some g→g < w.heap.size)→Out L0 wr.heap.size y:=fun y hy g hg=>Or.inl (by have:=hy g hg;omega)
 have hbl:=lt_of_heap A.S.cell
 refine (bRecords_any B0 b kS kR nn hi L0 rc.length n vS vN vR vQ v es rs xs rc wr AR (own_base O (by omega)) R rfl ⟨by omega,hlt _ (fun g hg=>(ownBlock_lt A.S.s hg).1),hlt _ (fun g hg=>(ownBlock_lt A.S.n hg).1),fun x hx=>hlt _ (fun g hg=>((A.S.ent x hx).tyI hg).lt)⟩ (fun x hx g hg hv=>?_) ⟨by omega,hhi⟩ (by have:=UZ.size;omega) hnn (by omega) (by omega) (by omega) ⟨hn.1,by omega⟩).mono ?_
 ·have h1:=((A.ent x hx).tyI hg).lt
  have h2:=(ownBlock_lt O hv).2
  omega
 ·rintro e w' ⟨yS,yN,yR,yQ,es',rs',rfl,A',F'⟩
  refine⟨rfl,rfl,(Sf.of UZ).trans (Sf.bf F'),⟨o8,⟨?_,T8.row,T8.blk,fun x x' e e'=>Nat.le_trans (T8.len x x' e e') (by omega)⟩⟩,_,_,_,yS,yN,yR,yQ,es',rs',⟨by omega,by omega,by omega,by omega⟩,A'⟩
  have h8:=T8.at'
  revert h8
  cases o8 with
  | none=>intros;trivial
  | some x=>exact fun h8=>TwAt.keep h8 ((Sf.of S8).trans (Sf.bf F')) (LTy.nil _ _) (fun k hk hm=>by cases hm)
set_option maxRecDepth 8000 in
set_option maxHeartbeats 3200000 in
theorem does_feed (B0 b kS kR:Nat) (n:Int) (vS vN vR vQ:Value) (es rs:List (Value×Int)) (o:Option Tw) (S:ByteArray) (ks kn:Int) (w:World) (A:BkA B0 w b kS kR n vS vN vR vQ es rs) (hw:TwO B0 w o) (hS:S.size≤1048576) (hsz:∀ x,o=some x→x.A.size+S.size≤1048576) (hB0:B0≤w.heap.size) (hk:kS≤40000000) (hkR:kR≤40000000) (hn:0≤n∧n≤40000000):Calls Tryz.prog 21 #[.agg #[.pointer (xO o),.pointer (rO o)],.pointer (some ⟨b,0,none⟩),.agg #[.int .i64 4,.int .i64 ks,.int .i64 kn,.string S]] w (DoOut B0 b kS kR n S.size o w):=by
 have HA:Hid (BkA B0 w b kS kR n vS vN vR vQ es rs):=A
 have HW:Hid (TwO B0 w o):=hw
 have HSZ:Hid (∀ x,o=some x→x.A.size+S.size≤1048576):=hsz
 have HB0:Hid (B0≤w.heap.size):=hB0
 clear A hw hsz hB0
 go_enter Tryz.func21,Tryz.ntmps21
 go_wp2_with fail
 have U1:Hid (Upd [] w ((w.alloc (.cells #[.pointer (xO o),.pointer (rO o)] 55)).alloc (.cells #[.int .i64 4,.int .i64 ks,.int .i64 kn,.string S] 49))):=Upd.alloc (Upd.alloc (Upd.refl _ _) _) _
 have X1:Hid (((w.alloc (.cells #[.pointer (xO o),.pointer (rO o)] 55)).alloc (.cells #[.int .i64 4,.int .i64 ks,.int .i64 kn,.string S] 49)).heap[w.heap.size]?=some (.cells #[.pointer (xO o),.pointer (rO o)] 55 (0,0))):=(Below.heap_alloc _ _ _ (by show w.heap.size < (w.heap.push _).size;simp)).trans (heap_new rfl)
 generalize hX:w.heap.size=X at *
 generalize (w.alloc (.cells #[.pointer (xO o),.pointer (rO o)] 55)).alloc (.cells #[.int .i64 4,.int .i64 ks,.int .i64 kn,.string S] 49)=w1 at *
 refine (feeds_any B0 b kS kR n vS vN vR vQ es rs o S _ (HA.out.upd0 U1.out) (HW.out.keep0 U1.out) hS HSZ.out (by have:=U1.out.size;have:=HB0.out;omega) hk hkR hn).mono ?_
 intro e w2 h2
 obtain rfl:=h2.1
 have H2:Hid (DoOut B0 b kS kR n S.size o w (.returned (.bool true)) w2):=h2.pre U1.out
 clear h2
 go_wp2_with fail
 go_ret
 exact H2.out
set_option maxRecDepth 8000 in
set_option maxHeartbeats 3200000 in
theorem does_held (B0 b kS kR:Nat) (n:Int) (vS vN vR vQ:Value) (es rs:List (Value×Int)) (o:Option Tw) (S:ByteArray) (ks kn:Int) (w:World) (A:BkA B0 w b kS kR n vS vN vR vQ es rs) (hw:TwO B0 w o) (hsz:∀ x,o=some x→x.A.size≤1048576) (hn:0≤n∧n≤40000000) (d:Nat):Calls Tryz.prog 21 #[.agg #[.pointer (xO o),.pointer (rO o)],.pointer (some ⟨b,0,none⟩),.agg #[.int .i64 5,.int .i64 ks,.int .i64 kn,.string S]] w (DoOut B0 b kS kR n d o w):=by
 have HA:Hid (BkA B0 w b kS kR n vS vN vR vQ es rs):=A
 have HW:Hid (TwO B0 w o):=hw
 have HSZ:Hid (∀ x,o=some x→x.A.size≤1048576):=hsz
 clear A hw hsz
 have x0':xO o=xO o:=rfl
 clear x0'
 go_enter Tryz.func21,Tryz.ntmps21
 go_wp2_with fail
 have U1:Hid (Upd [] w ((w.alloc (.cells #[.pointer (xO o),.pointer (rO o)] 55)).alloc (.cells #[.int .i64 5,.int .i64 ks,.int .i64 kn,.string S] 49))):=Upd.alloc (Upd.alloc (Upd.refl _ _) _) _
 have X1:Hid (((w.alloc (.cells #[.pointer (xO o),.pointer (rO o)] 55)).alloc (.cells #[.int .i64 5,.int .i64 ks,.int .i64 kn,.string S] 49)).heap[w.heap.size]?=some (.cells #[.pointer (xO o),.pointer (rO o)] 55 (0,0))):=(Below.heap_alloc _ _ _ (by show w.heap.size < (w.heap.push _).size;simp)).trans (heap_new rfl)
 generalize hX:w.heap.size=X at *
 generalize (w.alloc (.cells #[.pointer (xO o),.pointer (rO o)] 55)).alloc (.cells #[.int .i64 5,.int .i64 ks,.int .i64 kn,.string S] 49)=w1 at *
 obtain⟨m,code,H1,H2⟩:=heldP B0 o w1 (HW.out.keep0 U1.out) HSZ.out
 refine H1.mono ?_
 rintro e w2 ⟨rfl,u2⟩
 have U2:Hid (Upd [] w1 w2):=u2
 have x1:w2.cell? ⟨X,1,none⟩=some (.pointer (rO o)):=by
  have h:=(u2.block X (lt_of_heap X1.out) (by simp)).trans X1.out
  rw [World.cell?,h];rfl
 have H2':Hid (∀ w2,Upd [] w1 w2→Calls Tryz.prog 38 #[.pointer (rO o)] w2 (fun e w'=>e=.returned (.tuple #[.int .i64 m,.int .i64 code])∧Upd [] w2 w')):=H2
 clear u2 H1 H2
 go_wp2_with fail
 refine (H2'.out w2 U2.out).mono ?_
 rintro e w3 ⟨rfl,u3⟩
 have HD:Hid (DoOut B0 b kS kR n d o w (.returned (.bool true)) w3):=DoOut.none HA.out HW.out hn.1 ((U1.out.trans U2.out).trans u3)
 clear u3 x1
 go_wp2_with fail
 go_ret
 exact HD.out
set_option maxRecDepth 8000 in
set_option maxHeartbeats 3200000 in
theorem does_close (B0 b kS kR:Nat) (n:Int) (vS vN vR vQ:Value) (es rs:List (Value×Int)) (o:Option Tw) (S:ByteArray) (ks kn:Int) (w:World) (A:BkA B0 w b kS kR n vS vN vR vQ es rs) (hw:TwO B0 w o) (hsz:∀ x,o=some x→x.A.size≤1048576) (hB0:B0≤w.heap.size) (hk:kS≤40000000) (hkR:kR≤40000000) (hn:0≤n∧n≤40000000) (d:Nat):Calls Tryz.prog 21 #[.agg #[.pointer (xO o),.pointer (rO o)],.pointer (some ⟨b,0,none⟩),.agg #[.int .i64 6,.int .i64 ks,.int .i64 kn,.string S]] w (DoOut B0 b kS kR n d o w):=by
 have HA:Hid (BkA B0 w b kS kR n vS vN vR vQ es rs):=A
 have HW:Hid (TwO B0 w o):=hw
 have HSZ:Hid (∀ x,o=some x→x.A.size≤1048576):=hsz
 have HB0:Hid (B0≤w.heap.size):=hB0
 clear A hw hsz hB0
 go_enter Tryz.func21,Tryz.ntmps21
 go_wp2_with fail
 have U1:Hid (Upd [] w ((w.alloc (.cells #[.pointer (xO o),.pointer (rO o)] 55)).alloc (.cells #[.int .i64 6,.int .i64 ks,.int .i64 kn,.string S] 49))):=Upd.alloc (Upd.alloc (Upd.refl _ _) _) _
 have X1:Hid (((w.alloc (.cells #[.pointer (xO o),.pointer (rO o)] 55)).alloc (.cells #[.int .i64 6,.int .i64 ks,.int .i64 kn,.string S] 49)).heap[w.heap.size]?=some (.cells #[.pointer (xO o),.pointer (rO o)] 55 (0,0))):=(Below.heap_alloc _ _ _ (by show w.heap.size < (w.heap.push _).size;simp)).trans (heap_new rfl)
 generalize hX:w.heap.size=X at *
 generalize (w.alloc (.cells #[.pointer (xO o),.pointer (rO o)] 55)).alloc (.cells #[.int .i64 6,.int .i64 ks,.int .i64 kn,.string S] 49)=w1 at *
 obtain⟨nn,rc,code,hnn,hrl,H1⟩:=closeP B0 o w1 (HW.out.keep0 U1.out) HSZ.out
 refine H1.mono ?_
 rintro e w2 ⟨v2,rfl,V2,u2,NX⟩
 have U2:Hid (Upd (blkO o) w1 w2):=u2
 have V2':Hid (RecsAt w2 w1.heap.size v2 nn rc):=V2
 have hXb:X∉blkO o:=fun hm=>by
  have:=blkO_lt HW.out X hm;omega
 have x1:w2.cell? ⟨X,1,none⟩=some (.pointer (rO o)):=by
  have h:=(u2.block X (lt_of_heap X1.out) hXb).trans X1.out
  rw [World.cell?,h];rfl
 have NX':Hid (∀ w7,Upd [] w2 w7→Calls Tryz.prog 39 #[.pointer (rO o)] w7 fun e w8=>∃ v2,e=.returned (.tuple #[v2,.int .i64 code])∧RecsAt w8 w7.heap.size v2 nn rc∧Upd (blkO o) w7 w8∧∃ o',TwTo B0 w1 o o' 0 w8):=NX
 obtain⟨va,vc,hv,hvc⟩:=V2.slice
 subst hv
 clear u2 H1 NX V2 hXb
 go_wp2_with fail
 refine (NX'.out w2 (Upd.refl _ _)).mono ?_
 rintro e w3 ⟨v3,rfl,V3,u3,o3,T3⟩
 have V3':Hid (RecsAt w3 w2.heap.size v3 nn rc):=V3
 obtain⟨vb,vd,hvb,hvd⟩:=V3.slice
 subst hvb
 have V2'':Hid (RecsAt w3 w1.heap.size (.slice va rc.length vc) nn rc):=V2'.out.low u3 (fun k hk=>by have:=blkO_lt HW.out k hk;have:=U1.out.size;omega)
 have UA:Hid (Upd (blkO o) w w3):=((U1.out.mono (by simp)).trans U2.out).trans u3
 have T3':Hid (TwTo B0 w o o3 0 w3):=⟨T3.at',T3.row,fun k hk=>(T3.blk k hk).imp id (fun h=>Nat.le_trans U1.out.size h),T3.len⟩
 clear u3 V3 T3 x1 V2'
 go_wp2_with fail
 refine (sameR_any _ _ rc _ _ _ nn (by omega) (by omega) V2''.out V3'.out).mono ?_
 rintro e w4 ⟨rfl,u4⟩
 have U4:Hid (Upd [] w3 w4):=u4
 have HA4:Hid (BkA B0 w4 b kS kR n vS vN vR vQ es rs):=(HA.out.upd UA.out (blkO_ty HW.out) bok_str).upd0 u4
 obtain⟨xs,hi,O1,R1,hhi⟩:=(V2''.out.upd u4).ex
 have HOUT:=closesEnd HA.out HW.out HA4.out O1 R1 hhi (by have:=U1.out.size;omega) hnn hrl (by have:=HB0.out;omega) hk hkR hn (UA.out.trans (u4.mono (by simp))) T3'.out u4 d
 clear u4 O1 R1 hhi
 go_wp2_with fail
 refine HOUT.mono ?_
 rintro e w5 ⟨rfl,h5⟩
 have HD:Hid (DoOut B0 b kS kR n d o w (.returned (.bool true)) w5):=h5
 clear HOUT h5
 go_wp2_with fail
 go_ret
 exact HD.out
end Go.Proofs.YtcpfpnjkfahjcaaGreat
