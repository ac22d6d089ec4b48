import Derived.Test.YtcpfpnjkfahjcaaGreatH34
import Derived.Test.YtcpfpnjkfahjcaaGreatH33
import Derived.Test.YtcpfpnjkfahjcaaGreatH25
set_option linter.unusedSimpArgs false
set_option linter.unusedVariables false
namespace Go.Proofs.YtcpfpnjkfahjcaaGreat
open Go.RowKit
structure NdCell (w:World) (g k:Nat) (n:Sp.Nd):Prop where
 c0:w.cell? ⟨g,k * 260,none⟩=some (.int .i64 n.kind)
 c1:w.cell? ⟨g,k * 260+1,none⟩=some (.int .i64 n.a)
 c2:w.cell? ⟨g,k * 260+2,none⟩=some (.int .i64 n.b)
 cs:∀ c,c < 256→w.cell? ⟨g,k * 260+3+c,none⟩=some (.bool (n.set c))
 cn:w.cell? ⟨g,k * 260+259,none⟩=some (.int .i64 n.num)
theorem flat_at {A B:Type} (f:A→List B) (z:Nat) (hz:∀ x,(f x).length=z):∀ (l:List A) (k o:Nat) (x:A),l[k]?=some x→o < z→(l.flatMap f)[k * z+o]?=(f x)[o]?
 | [],k,o,x,h,_=>by simp at h
 | y::l,0,o,x,h,ho=>by
  simp at h;subst h
  rw [List.flatMap_cons,List.getElem?_append_left (by rw [hz];omega)]
  simp
 | y::l,k+1,o,x,h,ho=>by
  rw [List.flatMap_cons,List.getElem?_append_right (by rw [hz,Nat.add_mul];omega),hz]
  rw [show (k+1) * z+o - z=k * z+o by rw [Nat.add_mul];omega]
  exact flat_at f z hz l k o x (by simpa using h) ho
structure RfAt (w:World) (p g:Nat) (ns:List Sp.Nd) (cap:Nat) (top told:Int):Prop where
 block:w.heap[p]?=some (.cells #[.slice (some ⟨g,0,none⟩) ns.length cap,.int .i64 top,.int .i64 told] 82 (0,0))
 row:∃ cur,w.heap[g]?=some (.cells cur 129 (0,0))∧cur.toList.take (ns.length * 260)=ns.flatMap ndCells
 le:ns.length≤cap
theorem CpAt.rf {w:World} {p:Nat} {c:Sp.Cp} {top:Int} (h:CpAt w p c top) (hne:0 < c.ns.length):∃ g cap,RfAt w p g c.ns cap top c.told∧p < g:=by
 obtain⟨v,hv⟩:=h
 rcases hv.own.2 with ⟨_,q⟩|⟨g,cap,cur,rfl,e1,e2,e3,_,_,e4⟩
 ·omega
 ·exact⟨g,cap,⟨hv.block,⟨cur,e2,e4⟩,e3⟩,by omega⟩
theorem RfAt.node {w:World} {p g cap:Nat} {ns:List Sp.Nd} {top told:Int} (h:RfAt w p g ns cap top told) {k:Nat} {n:Sp.Nd} (hk:ns[k]?=some n):NdCell w g k n:=by
 obtain⟨cur,e1,e2⟩:=h.row
 have hlt:=(List.getElem?_eq_some_iff.mp hk).1
 have key:∀ o v,o < 260→(ndCells n)[o]?=some v→w.cell? ⟨g,k * 260+o,none⟩=some v:=fun o v ho hv=>by
  have e:=flat_at ndCells 260 ndCells_len ns k o n hk ho
  rw [← e2,List.getElem?_take_of_lt (by omega),hv] at e
  rw [World.cell?,e1]
  show cur[k * 260+o]?=some v
  rw [← Array.getElem?_toList];exact e
 have k0:(ndCells n)[0]?=some (.int .i64 n.kind):=by unfold ndCells;rw [List.getElem?_cons_zero]
 have k1:(ndCells n)[1]?=some (.int .i64 n.a):=by unfold ndCells;rw [List.getElem?_cons_succ,List.getElem?_cons_zero]
 have k2:(ndCells n)[2]?=some (.int .i64 n.b):=by unfold ndCells;rw [List.getElem?_cons_succ,List.getElem?_cons_succ,List.getElem?_cons_zero]
 have k3:∀ c,c < 256→(ndCells n)[3+c]?=some (.bool (n.set c)):=fun c hc=>by
  unfold ndCells
  rw [show 3+c=c+1+1+1 by omega,List.getElem?_cons_succ,List.getElem?_cons_succ,List.getElem?_cons_succ,List.getElem?_append_left (by simp;exact hc)]
  simp [hc]
 have k4:(ndCells n)[256+1+1+1]?=some (.int .i64 n.num):=by
  unfold ndCells
  rw [List.getElem?_cons_succ,List.getElem?_cons_succ,List.getElem?_cons_succ,List.getElem?_append_right (by simp)]
  simp
 generalize ndCells n=X at *
 have z0:=key 0 _ (by omega) k0
 rw [Nat.add_zero] at z0
 rw [show (256+1+1+1:Nat)=259 from rfl] at k4
 exact⟨z0,key 1 _ (by omega) k1,key 2 _ (by omega) k2,fun c hc=>by rw [Nat.add_assoc];exact key (3+c) _ (by omega) (k3 c hc),key 259 _ (by omega) k4⟩
def KnAt (w:World) (gk N:Nat) (K:Nat→Nat):Prop:=∃ cur:Array Value,w.heap[gk]?=some (.cells cur 5 (0,0))∧cur.size=N∧∀ q,q < N→cur[q]?=some (.int .u8 (K q))
def setK (K:Nat→Nat) (q v:Nat):Nat→Nat:=fun x=>if x=q then v else K x
theorem KnAt.cell {w:World} {gk N:Nat} {K:Nat→Nat} (h:KnAt w gk N K) {q:Nat} (hq:q < N):w.cell? ⟨gk,q,none⟩=some (.int .u8 (K q))∧w.frozen? ⟨gk,q,none⟩=false:=by
 obtain⟨cur,e1,e2,e3⟩:=h
 refine⟨?_,?_⟩
 ·rw [World.cell?,e1];exact e3 q hq
 ·rw [World.frozen?,e1];rfl
theorem KnAt.set {w:World} {gk N:Nat} {K:Nat→Nat} (h:KnAt w gk N K) {q:Nat} (hq:q < N) (v:Nat):KnAt (w.setCell ⟨gk,q,none⟩ (.int .u8 v)) gk N (setK K q v):=by
 obtain⟨cur,e1,e2,e3⟩:=h
 refine⟨cur.setIfInBounds q (.int .u8 v),heap_set e1 q _,by simp [e2],fun x hx=>?_⟩
 rw [Array.getElem?_setIfInBounds]
 unfold setK
 by_cases hxq:q=x
 ·subst hxq;simp [e2,hq]
 ·rw [if_neg hxq,if_neg (fun e=>hxq e.symm)];exact e3 x hx
structure RkAt (w:World) (q p g gk:Nat) (ns:List Sp.Nd) (cap:Nat) (top told:Int) (S:ByteArray) (N:Nat) (sv:Value) (K:Nat→Nat):Prop where
 block:w.heap[q]?=some (.cells #[.pointer (some ⟨p,0,none⟩),.string S,.slice (some ⟨gk,0,none⟩) N N,sv] 132 (0,0))
 rf:RfAt w p g ns cap top told
 kn:KnAt w gk N K
theorem RkAt.cells {w:World} {q p g gk:Nat} {ns:List Sp.Nd} {cap:Nat} {top told:Int} {S:ByteArray} {N:Nat} {sv:Value} {K:Nat→Nat} (h:RkAt w q p g gk ns cap top told S N sv K) :
  w.cell? ⟨q,0,none⟩=some (.pointer (some ⟨p,0,none⟩))∧w.cell? ⟨q,1,none⟩=some (.string S)∧w.cell? ⟨q,2,none⟩=some (.slice (some ⟨gk,0,none⟩) N N)∧w.cell? ⟨q,3,none⟩=some sv∧w.cell? ⟨p,0,none⟩=some (.slice (some ⟨g,0,none⟩) ns.length cap)∧w.cell? ⟨p,1,none⟩=some (.int .i64 top)∧w.cell? ⟨p,2,none⟩=some (.int .i64 told):=by
 have hb:=h.block
 have hp:=h.rf.block
 refine⟨?_,?_,?_,?_,?_,?_,?_⟩
 ·rw [World.cell?,hb];rfl
 ·rw [World.cell?,hb];rfl
 ·rw [World.cell?,hb];rfl
 ·rw [World.cell?,hb];rfl
 ·rw [World.cell?,hp];rfl
 ·rw [World.cell?,hp];rfl
 ·rw [World.cell?,hp];rfl
theorem RkAt.ne {w:World} {q p g gk:Nat} {ns:List Sp.Nd} {cap:Nat} {top told:Int} {S:ByteArray} {N:Nat} {sv:Value} {K:Nat→Nat} (h:RkAt w q p g gk ns cap top told S N sv K):q≠gk∧p≠gk∧g≠gk:=by
 obtain⟨cur,e1,_⟩:=h.kn
 have ne:∀ {k:Nat} {a:Array Value} {T:TypeId},w.heap[k]?=some (.cells a T (0,0))→T≠5→k≠gk:=fun {k a T} hk hT hm=>by
  subst hm
  rw [hk] at e1
  injection e1 with e1
  injection e1 with _ e1 _
  exact hT e1
 obtain⟨c2,d1,d2⟩:=h.rf.row
 exact⟨ne h.block (by decide),ne h.rf.block (by decide),ne d1 (by decide)⟩
theorem RkAt.known {w w':World} {q p g gk:Nat} {ns:List Sp.Nd} {cap:Nat} {top told:Int} {S:ByteArray} {N:Nat} {sv:Value} {K K':Nat→Nat} (h:RkAt w q p g gk ns cap top told S N sv K) (u:Upd [gk] w w') (k:KnAt w' gk N K'):RkAt w' q p g gk ns cap top told S N sv K':=by
 obtain⟨cur,e1,_⟩:=h.kn
 have ne:∀ {k:Nat} {a:Array Value} {T:TypeId},w.heap[k]?=some (.cells a T (0,0))→T≠5→k∉[gk]:=fun {k a T} hk hT hm=>by
  have:k=gk:=by simpa using hm
  subst this
  rw [hk] at e1
  injection e1 with e1
  injection e1 with _ e1 _
  exact hT e1
 obtain⟨c2,d1,d2⟩:=h.rf.row
 exact⟨(u.block q (lt_of_heap h.block) (ne h.block (by decide))).trans h.block,⟨(u.block p (lt_of_heap h.rf.block) (ne h.rf.block (by decide))).trans h.rf.block,⟨c2,(u.block g (lt_of_heap d1) (ne d1 (by decide))).trans d1,d2⟩,h.rf.le⟩,k⟩
def kIdx (n1 k i j:Nat):Nat:=(k * n1+i) * n1+j
theorem kIdx_lt {n1 L k i j:Nat} (hk:k < L) (hi:i < n1) (hj:j < n1):kIdx n1 k i j < L * n1 * n1:=by
 unfold kIdx
 have h1:k * n1+i+1≤L * n1:=by
  have:(k+1) * n1≤L * n1:=Nat.mul_le_mul_right _ hk
  rw [Nat.add_mul] at this;omega
 have h2:(k * n1+i+1) * n1≤L * n1 * n1:=Nat.mul_le_mul_right _ h1
 rw [Nat.add_mul] at h2
 omega
theorem kIdx_inj {n1 k i j k' i' j':Nat} (hi:i < n1) (hj:j < n1) (hi':i' < n1) (hj':j' < n1) (h:kIdx n1 k i j=kIdx n1 k' i' j'):k=k'∧i=i'∧j=j':=by
 have key:∀ {a b c d:Nat},b < n1→d < n1→a * n1+b=c * n1+d→a=c∧b=d:=fun {a b c d} hb hd e=>by
  have h0:0 < n1:=by omega
  have e1:(a * n1+b) / n1=(c * n1+d) / n1:=by rw [e]
  rw [Nat.add_comm,Nat.add_mul_div_right _ _ h0,Nat.div_eq_of_lt hb,Nat.add_comm (c * n1),Nat.add_mul_div_right _ _ h0,Nat.div_eq_of_lt hd] at e1
  have:a=c:=by omega
  subst this
  exact⟨rfl,by omega⟩
 obtain⟨h1,h2⟩:=key hj hj' h
 obtain⟨h3,h4⟩:=key hi hi' h1
 exact⟨h3,h4,h2⟩
def kMs (n1 k i j:Nat):Nat:=k * n1+(j - i)
def KGood (E:Nat→Sp.Sem) (n1 L μ:Nat) (K:Nat→Nat):Prop:=∀ k i j,k < L→i≤j→j < n1→kMs n1 k i j < μ→K (kIdx n1 k i j)=0∨K (kIdx n1 k i j)=if (E k).m i j then 2 else 1
def KSame (n1 L μ:Nat) (K K':Nat→Nat):Prop:=∀ k i j,k < L→i≤j→j < n1→μ≤kMs n1 k i j→K' (kIdx n1 k i j)=K (kIdx n1 k i j)
theorem KSame.refl (n1 L μ:Nat) (K:Nat→Nat):KSame n1 L μ K K:=fun _ _ _ _ _ _ _=>rfl
theorem KSame.trans {n1 L μ:Nat} {K K' K'':Nat→Nat} (h:KSame n1 L μ K K') (k:KSame n1 L μ K' K''):KSame n1 L μ K K'':=fun a i j h1 h2 h3 h4=>(k a i j h1 h2 h3 h4).trans (h a i j h1 h2 h3 h4)
theorem KSame.mono {n1 L μ ν:Nat} {K K':Nat→Nat} (h:KSame n1 L μ K K') (hm:μ≤ν):KSame n1 L ν K K':=fun a i j h1 h2 h3 h4=>h a i j h1 h2 h3 (by omega)
theorem KGood.up {E:Nat→Sp.Sem} {n1 L μ ν:Nat} {K K':Nat→Nat} (h:KGood E n1 L ν K) (k:KGood E n1 L μ K') (s:KSame n1 L μ K K'):KGood E n1 L ν K':=fun a i j h1 h2 h3 h4=>by
 rcases Nat.lt_or_ge (kMs n1 a i j) μ with q|q
 ·exact k a i j h1 h2 h3 q
 ·rw [s a i j h1 h2 h3 q];exact h a i j h1 h2 h3 h4
theorem KGood.down {E:Nat→Sp.Sem} {n1 L μ ν:Nat} {K:Nat→Nat} (h:KGood E n1 L ν K) (hm:μ≤ν):KGood E n1 L μ K:=fun a i j h1 h2 h3 h4=>h a i j h1 h2 h3 (by omega)
theorem KSame.set {n1 L μ k i j:Nat} (K:Nat→Nat) (v:Nat) (hk:k < L) (hij:i≤j) (hj:j < n1) (hm:kMs n1 k i j < μ):KSame n1 L μ K (setK K (kIdx n1 k i j) v):=fun a x y h1 h2 h3 h4=>by
 unfold setK
 rw [if_neg]
 intro e
 obtain⟨rfl,rfl,rfl⟩:=kIdx_inj (by omega) h3 (by omega) hj e
 omega
theorem KGood.set {E:Nat→Sp.Sem} {n1 L k i j:Nat} {K:Nat→Nat} (h:KGood E n1 L (kMs n1 k i j) K) (v:Nat) (hk:k < L) (hij:i≤j) (hj:j < n1):KGood E n1 L (kMs n1 k i j) (setK K (kIdx n1 k i j) v):=fun a x y h1 h2 h3 h4=>by
 unfold setK
 rw [if_neg]
 ·exact h a x y h1 h2 h3 h4
 ·intro e
  obtain⟨rfl,rfl,rfl⟩:=kIdx_inj (by omega) h3 (by omega) hj e
  omega
theorem KGood.done {E:Nat→Sp.Sem} {n1 L k i j μ:Nat} {K K2:Nat→Nat} (h0:KGood E n1 L μ K) (hμ:kMs n1 k i j < μ) (h:KGood E n1 L (kMs n1 k i j) K2) (s:KSame n1 L (kMs n1 k i j) (setK K (kIdx n1 k i j) 1) K2) (v:Nat) (hk:k < L) (hij:i≤j) (hj:j < n1) (hv:v=if (E k).m i j then 2 else 1):KGood E n1 L μ (setK K2 (kIdx n1 k i j) v):=fun a x y h1 h2 h3 h4=>by
 by_cases e:kIdx n1 a x y=kIdx n1 k i j
 ·obtain⟨rfl,rfl,rfl⟩:=kIdx_inj (by omega) h3 (by omega) hj e
  right
  simp [setK,hv]
 ·have e1:setK K2 (kIdx n1 k i j) v (kIdx n1 a x y)=K2 (kIdx n1 a x y):=by unfold setK;rw [if_neg e]
  rw [e1]
  rcases Nat.lt_or_ge (kMs n1 a x y) (kMs n1 k i j) with q|q
  ·exact h a x y h1 h2 h3 q
  ·rw [s a x y h1 h2 h3 q]
   unfold setK
   rw [if_neg e]
   exact h0 a x y h1 h2 h3 h4
structure WkFix where
 q:Nat
 p:Nat
 g:Nat
 gk:Nat
 ns:List Sp.Nd
 cap:Nat
 top:Int
 told:Int
 S:ByteArray
 N:Nat
 sv:Value
 E:Nat→Sp.Sem
structure WkFix.ok (x:WkFix):Prop where
 size:x.S.size≤100
 len:x.ns.length≤1000000
 n:x.N=x.ns.length * (x.S.size+1) * (x.S.size+1)
 mean:Sp.Means x.S x.ns x.E
def WkFix.at (x:WkFix) (w:World) (K:Nat→Nat):Prop:=RkAt w x.q x.p x.g x.gk x.ns x.cap x.top x.told x.S x.N x.sv K
def KnOut (x:WkFix) (μ:Nat) (v:Value) (w:World) (K:Nat→Nat) (e:Ending) (w':World):Prop:=∃ K',e=.returned v∧KnAt w' x.gk x.N K'∧KGood x.E (x.S.size+1) x.ns.length μ K'∧KSame (x.S.size+1) x.ns.length μ K K'∧Upd [x.gk] w w'
def AskC (x:WkFix) (k i j:Nat):Prop:=∀ w K,x.at w K→KGood x.E (x.S.size+1) x.ns.length (kMs (x.S.size+1) k i j) K→Calls Tryz.prog 48 #[.pointer (some ⟨x.q,0,none⟩),.int .i64 k,.int .i64 i,.int .i64 j] w (KnOut x (kMs (x.S.size+1) k i j) (.bool ((x.E k).m i j)) w K)
def CanC (x:WkFix) (k i j:Nat):Prop:=∀ w K,x.at w K→KGood x.E (x.S.size+1) x.ns.length (kMs (x.S.size+1) k i j+1) K→Calls Tryz.prog 28 #[.pointer (some ⟨x.q,0,none⟩),.int .i64 k,.int .i64 i,.int .i64 j] w (KnOut x (kMs (x.S.size+1) k i j+1) (.bool ((x.E k).m i j)) w K)
structure CanHyp (x:WkFix) (k i j A B:Nat):Prop where
 a:(k:Int) * ((x.S.size:Int)+1)=A
 b:((A:Int)+i) * ((x.S.size:Int)+1)=B
 ale:A≤1000000000
 ble:B≤1000000000000
 idx:kIdx (x.S.size+1) k i j=B+j
 lt:B+j < x.N
theorem canHyp {x:WkFix} (hx:x.ok) {k i j:Nat} (hk:k < x.ns.length) (hij:i≤j) (hj:j≤x.S.size):∃ A B,CanHyp x k i j A B:=by
 have h1:=hx.size
 have h2:=hx.len
 have hl:=kIdx_lt (n1:=x.S.size+1) (i:=i) (j:=j) hk (by omega) (by omega)
 have hA:k * (x.S.size+1)≤1000000 * 101:=Nat.mul_le_mul (by omega) (by omega)
 have hB:(k * (x.S.size+1)+i) * (x.S.size+1)≤(1000000 * 101+100) * 101:=Nat.mul_le_mul (by omega) (by omega)
 refine⟨k * (x.S.size+1),(k * (x.S.size+1)+i) * (x.S.size+1),by simp,by simp,by omega,by omega,rfl,?_⟩
 rw [hx.n];exact hl
theorem knCase {x:WkFix} {k i j:Nat} {K:Nat→Nat} (h:KGood x.E (x.S.size+1) x.ns.length (kMs (x.S.size+1) k i j+1) K) (hk:k < x.ns.length) (hij:i≤j) (hj:j≤x.S.size):K (kIdx (x.S.size+1) k i j)=0∨(K (kIdx (x.S.size+1) k i j)=1∧(x.E k).m i j=false)∨(K (kIdx (x.S.size+1) k i j)=2∧(x.E k).m i j=true):=by
 rcases h k i j hk hij (by omega) (by omega) with q|q
 ·exact Or.inl q
 ·cases hm:(x.E k).m i j with
  | true=>rw [hm] at q;exact Or.inr (Or.inr ⟨by simpa using q,rfl⟩)
  | false=>rw [hm] at q;exact Or.inr (Or.inl ⟨by simpa using q,rfl⟩)
set_option maxRecDepth 8000 in
set_option maxHeartbeats 1600000 in
theorem wCan_any (x:WkFix) (hx:x.ok) (k i j:Nat) (hk:k < x.ns.length) (hij:i≤j) (hj:j≤x.S.size) (hA:AskC x k i j):CanC x k i j:=by
 intro w K W G
 have HA:Hid (AskC x k i j):=hA
 have HX:Hid x.ok:=hx
 obtain⟨A,B,CH⟩:=canHyp hx hk hij hj
 have hsz:=hx.size
 have hln:=hx.len
 obtain⟨ca,cb,ale,ble,cidx,clt⟩:=CH
 have HIDX:Hid (kIdx (x.S.size+1) k i j=B+j):=cidx
 obtain⟨r0,r1,r2,r3,r4,r5,r6⟩:=W.cells
 obtain⟨n0,n1⟩:=KnAt.cell W.kn clt
 have HW:Hid (x.at w K):=W
 have hne:x.q≠x.gk:=W.ne.1
 have hne':¬ x.gk=x.q:=fun e=>hne e.symm
 have HG:Hid (KGood x.E (x.S.size+1) x.ns.length (kMs (x.S.size+1) k i j+1) K):=G
 have HK:=knCase G hk hij hj
 rw [cidx] at HK
 have clt':(B:Int)+j < x.N:=by omega
 have hN:x.N≤100000000000:=by
  rw [hx.n]
  have h1:x.ns.length * (x.S.size+1) * (x.S.size+1)≤1000000 * 101 * 101:=Nat.mul_le_mul (Nat.mul_le_mul hln (by omega)) (by omega)
  omega
 clear hA hx W G cidx
 rcases HK with hz|⟨ho,hm⟩|⟨ht,hm⟩
 ·have n0':w.cell? ⟨x.gk,B+j,none⟩=some (.int .u8 0):=by rw [n0,hz];rfl
  clear n0 hz
  go_enter Tryz.func28,Tryz.ntmps28
  go_wp2_with fail
  have u1:Upd [x.gk] w (w.setCell ⟨x.gk,B+j,none⟩ (.int .u8 1)):=Upd.setCell (Upd.refl _ _) (by simp) _
  have k1:KnAt (w.setCell ⟨x.gk,B+j,none⟩ (.int .u8 1)) x.gk x.N (setK K (B+j) 1):=KnAt.set HW.out.kn clt 1
  have W1:x.at (w.setCell ⟨x.gk,B+j,none⟩ (.int .u8 1)) (setK K (B+j) 1):=RkAt.known HW.out u1 k1
  have G1:KGood x.E (x.S.size+1) x.ns.length (kMs (x.S.size+1) k i j) (setK K (B+j) 1):=by
   have:=(HG.out.down (Nat.le_succ _)).set 1 hk hij (by omega)
   rw [HIDX.out] at this;exact this
  refine (HA.out _ _ W1 G1).mono ?_
  have U1:Hid (Upd [x.gk] w (w.setCell ⟨x.gk,B+j,none⟩ (.int .u8 1))):=u1
  have HW1:Hid (x.at (w.setCell ⟨x.gk,B+j,none⟩ (.int .u8 1)) (setK K (B+j) 1)):=W1
  clear k1 u1 W1 G1
  revert U1 HW1
  generalize w.setCell ⟨x.gk,B+j,none⟩ (.int .u8 1)=w1
  intro U1 HW1
  rintro e w2 ⟨K2,rfl,kn2,g2,s2,u2⟩
  have W2:x.at w2 K2:=RkAt.known HW1.out u2 kn2
  have HW2:Hid (x.at w2 K2):=W2
  have HG2:Hid (KGood x.E (x.S.size+1) x.ns.length (kMs (x.S.size+1) k i j) K2):=g2
  have HS2:Hid (KSame (x.S.size+1) x.ns.length (kMs (x.S.size+1) k i j) (setK K (B+j) 1) K2):=s2
  have U2:Hid (Upd [x.gk] w w2):=U1.out.trans u2
  have HS1:Hid (KSame (x.S.size+1) x.ns.length (kMs (x.S.size+1) k i j+1) K (setK K (B+j) 1)):=by
   have:=KSame.set (n1:=x.S.size+1) (L:=x.ns.length) (μ:=kMs (x.S.size+1) k i j+1) (j:=j) K 1 hk hij (by omega) (by omega)
   rw [HIDX.out] at this;exact this
  have HD:Hid (∀ v,v=(if (x.E k).m i j then 2 else 1)→KGood x.E (x.S.size+1) x.ns.length (kMs (x.S.size+1) k i j+1) (setK K2 (B+j) v)):=fun v hv=>by
   have:=KGood.done (L:=x.ns.length) HG.out (Nat.lt_succ_self _) g2 (by rw [HIDX.out];exact s2) v hk hij (by omega) hv
   rw [HIDX.out] at this;exact this
  have hK2:K2 (B+j)=1:=by
   have:=s2 k i j hk hij (by omega) (Nat.le_refl _)
   rw [HIDX.out] at this
   rw [this];simp [setK]
  obtain⟨p0,p1,p2,p3,p4,p5,p6⟩:=W2.cells
  obtain⟨m0,m1⟩:=KnAt.cell W2.kn clt
  rw [hK2] at m0
  have m0':w2.cell? ⟨x.gk,B+j,none⟩=some (.int .u8 1):=m0
  have HK2:Hid (K2 (B+j)=1):=hK2
  clear kn2 g2 s2 u2 W2 m0 hK2
  cases hm:(x.E k).m i j with
  | true=>
   go_wp2_with fail
   go_ret
   refine⟨setK K2 (B+j) 2,by rw [hm];rfl,KnAt.set HW2.out.kn clt 2,HD.out 2 (by rw [hm];rfl),(HS1.out.trans (HS2.out.mono (Nat.le_succ _))).trans ?_,U2.out.trans (Upd.setCell (Upd.refl _ _) (by simp) _)⟩
   have:=KSame.set (n1:=x.S.size+1) (L:=x.ns.length) (μ:=kMs (x.S.size+1) k i j+1) (j:=j) K2 2 hk hij (by omega) (by omega)
   rw [HIDX.out] at this;exact this
  | false=>
   go_wp2_with fail
   go_ret
   refine⟨K2,by rw [hm];rfl,HW2.out.kn,?_,HS1.out.trans (HS2.out.mono (Nat.le_succ _)),U2.out⟩
   have:=HD.out 1 (by rw [hm];rfl)
   have e:setK K2 (B+j) 1=K2:=by
    funext q;unfold setK;split
    ·rename_i h;rw [h,HK2.out]
    ·rfl
   rw [e] at this;exact this
 ·have n0':w.cell? ⟨x.gk,B+j,none⟩=some (.int .u8 1):=by rw [n0,ho];rfl
  clear n0 ho
  go_enter Tryz.func28,Tryz.ntmps28
  go_wp2_with fail
  go_ret
  exact⟨K,by rw [hm];rfl,HW.out.kn,HG.out,KSame.refl _ _ _ _,Upd.refl _ _⟩
 ·have n0':w.cell? ⟨x.gk,B+j,none⟩=some (.int .u8 2):=by rw [n0,ht];rfl
  clear n0 ht
  go_enter Tryz.func28,Tryz.ntmps28
  go_wp2_with fail
  go_ret
  exact⟨K,by rw [hm];rfl,HW.out.kn,HG.out,KSame.refl _ _ _ _,Upd.refl _ _⟩
def cutV (p:Nat→Bool) (fr j:Nat):Int:=match Sp.greatest p fr j with
 | none=>-1
 | some c=>c
theorem cutV_none {p:Nat→Bool} {fr j:Nat} (h:∀ m,fr≤m→m≤j→p m=false):cutV p fr j=-1:=by
 unfold cutV
 cases hg:Sp.greatest p fr j with
 | none=>rfl
 | some c=>have:=Sp.greatest_some hg;rw [h c this.1 this.2.1] at this;cases this.2.2.1
theorem cutV_some {p:Nat→Bool} {fr j d:Nat} (h1:fr≤d) (h2:d≤j) (h3:p d=true) (h:∀ m,d < m→m≤j→p m=false):cutV p fr j=d:=by
 unfold cutV
 cases hg:Sp.greatest p fr j with
 | none=>have:=Sp.greatest_none hg d h1 h2;rw [h3] at this;cases this
 | some c=>
  have r:=Sp.greatest_some hg
  rcases Nat.lt_trichotomy c d with q|q|q
  ·have:=r.2.2.2 d q h2;rw [h3] at this;cases this
  ·rw [q]
  ·have:=h c q r.2.1;rw [r.2.2.1] at this;cases this
theorem can_up {x:WkFix} {k i j μ:Nat} (h:CanC x k i j) (hm:kMs (x.S.size+1) k i j < μ) (w:World) (K:Nat→Nat) (W:x.at w K) (G:KGood x.E (x.S.size+1) x.ns.length μ K):Calls Tryz.prog 28 #[.pointer (some ⟨x.q,0,none⟩),.int .i64 k,.int .i64 i,.int .i64 j] w (KnOut x μ (.bool ((x.E k).m i j)) w K):=by
 refine (h w K W (G.down hm)).mono ?_
 rintro e w' ⟨K',e1,k1,g1,s1,u1⟩
 exact⟨K',e1,k1,G.up g1 s1,s1.mono hm,u1⟩
structure CkInv (x:WkFix) (p:Nat→Bool) (fr j μ:Nat) (w:World) (K:Nat→Nat) (gn:Nat) (vk:Value) (wr:World):Prop where
 st:∃ (c:Nat) (K':Nat→Nat),vk=.int .i64 ((c:Int) - 1)∧c=fr+gn∧c≤j+1∧(∀ m,c≤m→m≤j→p m=false)∧x.at wr K'∧KGood x.E (x.S.size+1) x.ns.length μ K'∧KSame (x.S.size+1) x.ns.length μ K K'∧Upd [x.gk] w wr
set_option maxRecDepth 8000 in
set_option maxHeartbeats 1600000 in
theorem wCut_any (x:WkFix) (hx:x.ok) (a b i j fr μ:Nat) (ha:a < x.ns.length) (hb:b < x.ns.length) (hj:j≤x.S.size) (hfr:fr≤j+1) (hif:i≤fr) (hA:∀ c,fr≤c→c≤j→CanC x a i c∧kMs (x.S.size+1) a i c < μ) (hB:∀ c,fr≤c→c≤j→CanC x b c j∧kMs (x.S.size+1) b c j < μ) (w:World) (K:Nat→Nat) (W:x.at w K) (G:KGood x.E (x.S.size+1) x.ns.length μ K):Calls Tryz.prog 65 #[.pointer (some ⟨x.q,0,none⟩),.int .i64 a,.int .i64 b,.int .i64 i,.int .i64 j,.int .i64 fr] w (KnOut x μ (.int .i64 (cutV (fun c=>(x.E a).m i c && (x.E b).m c j) fr j)) w K):=by
 have hsz:=hx.size
 have hln:=hx.len
 have HA:Hid (∀ c,fr≤c→c≤j→CanC x a i c∧kMs (x.S.size+1) a i c < μ):=hA
 have HB:Hid (∀ c,fr≤c→c≤j→CanC x b c j∧kMs (x.S.size+1) b c j < μ):=hB
 have START:Hid (CkInv x (fun c=>(x.E a).m i c && (x.E b).m c j) fr j μ w K (j+1 - fr) (.int .i64 j) w):=⟨j+1,K,by congr 1;omega,by omega,Nat.le_refl _,fun m h1 h2=>by omega,W,G,KSame.refl _ _ _ _,Upd.refl _ _⟩
 clear hA hB W G
 go_enter Tryz.func65,Tryz.ntmps65
 go_wp2_with fail
 go_loopg [13] (j+1 - fr) (fun gn vk wr=>CkInv x (fun c=>(x.E a).m i c && (x.E b).m c j) fr j μ w K gn vk wr)
 case atStart=>exact START.out
 case round=>
  obtain⟨c,K1,hvk,hc,hcj,hno,W1,G1,S1,U1⟩:=hrel.st
  subst hvk
  have HNO:Hid (∀ m,c≤m→m≤j→((x.E a).m i m && (x.E b).m m j)=false):=hno
  have HW1:Hid (x.at wr K1):=W1
  have HG1:Hid (KGood x.E (x.S.size+1) x.ns.length μ K1):=G1
  have HS1:Hid (KSame (x.S.size+1) x.ns.length μ K K1):=S1
  have HU1:Hid (Upd [x.gk] w wr):=U1
  have HCG:Hid (c=fr+gk):=hc
  have hfc:fr≤c:=by omega
  clear hno W1 G1 S1 U1 hc
  by_cases hz:c=fr
  ·have hlt:¬ (fr:Int)≤(c:Int) - 1:=by omega
   have hv:Hid (cutV (fun c=>(x.E a).m i c && (x.E b).m c j) fr j=-1):=cutV_none fun m h1 h2=>HNO.out m (by omega) h2
   clear hz
   go_wp2_with fail
   go_ret
   exact⟨K1,by rw [hv.out];rfl,HW1.out.kn,HG1.out,HS1.out,HU1.out⟩
  ·obtain⟨gm,hgm⟩:∃ k,gk=k+1:=⟨gk - 1,by have:=HCG.out;omega⟩
   have HGM:Hid (gk=gm+1):=hgm
   obtain⟨d,hd⟩:∃ d,c=d+1:=⟨c - 1,by omega⟩
   have HD:Hid (c=d+1):=hd
   have hcd:(c:Int) - 1=d:=by omega
   have hlt:(fr:Int)≤d:=by omega
   have hfd:fr≤d:=by omega
   have hdj:d≤j:=by omega
   clear hgm hd
   go_wp2_with fail
   refine (can_up (HA.out d hfd hdj).1 (HA.out d hfd hdj).2 _ K1 HW1.out HG1.out).mono ?_
   rintro e w2 ⟨K2,rfl,k2,g2,s2,u2⟩
   have HW2:Hid (x.at w2 K2):=RkAt.known HW1.out u2 k2
   have HG2:Hid (KGood x.E (x.S.size+1) x.ns.length μ K2):=g2
   have HS2:Hid (KSame (x.S.size+1) x.ns.length μ K K2):=HS1.out.trans s2
   have HU2:Hid (Upd [x.gk] w w2):=HU1.out.trans u2
   clear k2 g2 s2 u2
   cases hm:(x.E a).m i d with
   | false=>
    have RL:Hid (CkInv x (fun c=>(x.E a).m i c && (x.E b).m c j) fr j μ w K gm (.int .i64 ((d:Int) - 1)) w2):=⟨d,K2,rfl,by have:=HCG.out;have:=HGM.out;have:=HD.out;omega,by omega,fun m h1 h2=>by
     rcases Nat.lt_or_ge d m with q|q
     ·exact HNO.out m (by have:=HD.out;omega) h2
     ·have:m=d:=by omega
      subst this;simp [hm],HW2.out,HG2.out,HS2.out,HU2.out⟩
    go_wp2_with fail
    go_roundg gm
    case measure=>have:=HGM.out;omega
    case rel=>exact RL.out
   | true=>
    go_wp2_with fail
    refine (can_up (HB.out d hfd hdj).1 (HB.out d hfd hdj).2 _ K2 HW2.out HG2.out).mono ?_
    rintro e w3 ⟨K3,rfl,k3,g3,s3,u3⟩
    have HW3:Hid (x.at w3 K3):=RkAt.known HW2.out u3 k3
    have HG3:Hid (KGood x.E (x.S.size+1) x.ns.length μ K3):=g3
    have HS3:Hid (KSame (x.S.size+1) x.ns.length μ K K3):=HS2.out.trans s3
    have HU3:Hid (Upd [x.gk] w w3):=HU2.out.trans u3
    clear k3 g3 s3 u3
    cases hm2:(x.E b).m d j with
    | false=>
     have RL:Hid (CkInv x (fun c=>(x.E a).m i c && (x.E b).m c j) fr j μ w K gm (.int .i64 ((d:Int) - 1)) w3):=⟨d,K3,rfl,by have:=HCG.out;have:=HGM.out;have:=HD.out;omega,by omega,fun m h1 h2=>by
      rcases Nat.lt_or_ge d m with q|q
      ·exact HNO.out m (by have:=HD.out;omega) h2
      ·have:m=d:=by omega
       subst this;simp [hm2],HW3.out,HG3.out,HS3.out,HU3.out⟩
     go_wp2_with fail
     go_roundg gm
     case measure=>have:=HGM.out;omega
     case rel=>exact RL.out
    | true=>
     have hv:Hid (cutV (fun c=>(x.E a).m i c && (x.E b).m c j) fr j=d):=cutV_some hfd hdj (by simp [hm,hm2]) fun m h1 h2=>HNO.out m (by have:=HD.out;omega) h2
     go_wp2_with fail
     go_ret
     exact⟨K3,by rw [hv.out];rfl,HW3.out.kn,HG3.out,HS3.out,HU3.out⟩
end Go.Proofs.YtcpfpnjkfahjcaaGreat
