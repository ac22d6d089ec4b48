import Derived.Test.YtcpfpnjkfahjcaaGreatH43
import Derived.Maps.AppendAt
import Derived.Deep.RegionLaw
set_option linter.unusedSimpArgs false
set_option linter.unusedVariables false
namespace Go.Proofs.YtcpfpnjkfahjcaaGreat
open Go.RowKit
section
variable {P:Program}
theorem run_append_more (w:World) (base:Nat) (t ty e:TypeId) (i:TypeInfo) (z:Value) (size bytes:Nat) (ht:P.underlying t=some (.slice e)) (hi:P.info? e=some i) (hz:i.zero=some z)
  (hsize:i.size=size) (hby:i.bytes=bytes) (hzs:z.cells.size=size) (hsz:0 < size)
  (v:Value) (n:Nat) (xs:List Value) (hown:w.ownsRow base e size v n xs)
  (a:Addr) (m c:Nat) (news:List Value) (hl:news.length=m * size) (hnews:∀ j u,news[j]?=some u→w.cell? (a.add j)=some u) (h1:∀ u∈news,u.oneCell'=true)
  (h63:n+m≤maxLen) (hbytes:(n+m) * bytes≤140737488355328) (hbase:base≤w.heap.size) :
  ∃ v' w',(Builtin.append_ #[t,t] ty #[v,.slice (some a) m c]).run P w=.ok v' w'∧w'.ownsRow base e size v' (n+m) (xs++news)∧w.grownBy w' v.ownBlock∧(v'.ownBlock=v.ownBlock∨(v'.ownBlock=some w.heap.size∧w.grownBy w' none)):=by
 obtain⟨v',w',hr,h2,h3,h4,h5⟩:=run_append_own_at (P:=P) w base t ty e i z size bytes ht hi hz hsize hby hzs hsz v n xs hown a m c news hl hnews h1 h63 hbytes hbase
 refine⟨v',w',hr,h2,h3,?_⟩
 rcases h5 with q|q
 ·exact Or.inl q
 ·refine Or.inr ⟨q,?_⟩
  rcases hown.2 with ⟨rfl,_⟩|⟨g,cap,cur,rfl,hbg,hg,hnc,hcm,hcs,htake⟩
  ·exact h3
  ·subst hsize hby
   by_cases hroom:n+m≤cap
   ·have hfit:n * i.size+news.length≤cur.size:=by rw [hl,hcs,← Nat.add_mul];exact Nat.mul_le_mul_right _ hroom
    have hr':=run_append_room (P:=P) w t ty e i ht hi g n cap cur hg a m c news hl hnews h1 hroom hfit
    rw [hr'] at hr
    injection hr with e1 e2
    subst e1
    have hlt:=lt_of_heap hg
    simp [Value.ownBlock] at q
    omega
   ·have holds:∀ j u,xs[j]?=some u→w.cell? ((⟨g,0,none⟩:Addr).add j)=some u:=hown.cells (g:=g) rfl
    have hr':=run_append_grow (P:=P) w t ty e i z ht hi hz ⟨g,0,none⟩ n cap xs hown.1 holds a m c news hl hnews (by omega) (by unfold maxLen at h63;omega) (growslice_fits (by omega) hbytes)
    rw [hr'] at hr
    injection hr with e1 e2
    subst e2
    exact⟨rfl,rfl,rfl,by simp,fun k hk _=>heap_alloc_old w.drew _ hk⟩
theorem wpList_append_more (w:World) {ops:Array Oper} {rest:List Oper} {o:Oper} {a:Act} {Q:Exit→Act→World→Prop} (hgd:o.guard=none) (s x:Operand) (t:TypeId)
  (ho:o.op=.call { callee:=.builtin .append,args:=#[s,x],argTypes:=#[t,t] })
  (base:Nat) (e:TypeId) (i:TypeInfo) (z:Value) (size bytes:Nat) (ht:P.underlying t=some (.slice e)) (hi:P.info? e=some i) (hz:i.zero=some z)
  (hsize:i.size=size) (hby:i.bytes=bytes) (hzs:z.cells.size=size) (hsz:0 < size)
  (v:Value) (n:Nat) (xs:List Value) (hs:a.eval s=v) (hown:w.ownsRow base e size v n xs)
  (ad:Addr) (m c:Nat) (news:List Value) (hx:a.eval x=.slice (some ad) m c) (hl:news.length=m * size) (hnews:∀ j u,news[j]?=some u→w.cell? (ad.add j)=some u) (h1:∀ u∈news,u.oneCell'=true)
  (h63:n+m≤maxLen) (hbytes:(n+m) * bytes≤140737488355328) (hbase:base≤w.heap.size)
  (h:∀ v' w',w'.ownsRow base e size v' (n+m) (xs++news)→w.grownBy w' v.ownBlock→(v'.ownBlock=v.ownBlock∨(v'.ownBlock=some w.heap.size∧w.grownBy w' none))→wpList P ops Q rest (a.put o.dst v') w') :
  wpList P ops Q (o::rest) a w:=by
 refine wpList_plain hgd fun K hK=>?_
 obtain⟨v',w',hr,h2,h3,h5⟩:=run_append_more (P:=P) w base t o.type e i z size bytes ht hi hz hsize hby hzs hsz v n xs hown ad m c news hl hnews h1 h63 hbytes hbase
 unfold Oper.wp execOp
 simp only [ho,resolve,invoke,builtin,Sem.run_bind,Sem.run_pure,Result.andThen_ok,List.map_toArray,List.map_cons,List.map_nil,hs,hx,hr]
 exact hK _ _ (h v' w' h2 h3 h5)
end
def SpO (w:World) (b:Nat) (v:Value) (n:Nat) (f:Nat→Int×Int):Prop:=w.ownsRow b 66 2 v n (flat n f)
theorem SpO.l {w:World} {b:Nat} {v:Value} {n:Nat} {f:Nat→Int×Int} (h:SpO w b v n f):SpL w v n f:=by
 refine⟨h.1,?_⟩
 rcases h.2 with q|⟨g,cap,cur,e1,e2,e3⟩
 ·exact Or.inl q
 ·exact Or.inr ⟨g,cap,cur,e1,Nat.zero_le _,e3⟩
theorem SpO.upd {w w':World} {b:Nat} {v:Value} {n:Nat} {f:Nat→Int×Int} (h:SpO w b v n f) {l:List Nat} (u:Upd l w w') (hl:∀ g,v.ownBlock=some g→g∉l):SpO w' b v n f:=ownsRow_same h (fun k hk hlt=>u.block k hlt (hl k hk))
theorem low_upd {T:List Nat} {wc w w':World} {l:List Nat} (u:Upd T wc w) (k:Upd l w w') (hl:∀ q,q∈l→q∈T∨wc.heap.size≤q):Upd T wc w':=
 ⟨k.os.trans u.os,k.tape.trans u.tape,k.output.trans u.output,Nat.le_trans u.size k.size,fun q hq hn=>(k.block q (Nat.lt_of_lt_of_le hq u.size) (fun hm=>by
  rcases hl q hm with e|e
  ·exact hn e
  ·omega)).trans (u.block q hq hn)⟩
theorem low_grown {T:List Nat} {wc w w':World} {row:Option Nat} (u:Upd T wc w) (g:w.grownBy w' row) (hr:∀ q,row=some q→q∈T∨wc.heap.size≤q):Upd T wc w':=low_upd u (Upd.of_grown g) (fun q hq=>hr q (by simpa using hq))
def Ent (w:World) (v:Value) (z:Int):Prop:=(∃ c,v=.slice none 0 c)∨∃ g n cap cur,v=.slice (some ⟨g,0,none⟩) n cap∧(n≤cap∧cap≤maxLen)∧w.heap[g]?=some (.cells cur 66 (0,0))∧cur.toList.take (n * 2)=flat n (fun _=>(z,0))
def vLen:Value→Nat
 | .slice _ n _=>n
 | _=>0
theorem Ent.keep {w w':World} {v:Value} {z:Int} (h:Ent w v z) (hk:∀ g cur,v.ownBlock=some g→w.heap[g]?=some (.cells cur 66 (0,0))→∃ cur',w'.heap[g]?=some (.cells cur' 66 (0,0))∧cur'.toList.take (vLen v * 2)=cur.toList.take (vLen v * 2)):Ent w' v z:=by
 rcases h with h|⟨g,n,cap,cur,rfl,h1,h2,h3⟩
 ·exact Or.inl h
 ·obtain⟨cur',e1,e2⟩:=hk g cur rfl h2
  exact Or.inr ⟨g,n,cap,cur',rfl,h1,e1,e2.trans h3⟩
theorem Ent.upd {w w':World} {v:Value} {z:Int} {l:List Nat} (h:Ent w v z) (u:Upd l w w') (hl:∀ g,v.ownBlock=some g→g∉l):Ent w' v z:=
 h.keep fun g cur hg hc=>⟨cur,(u.block g (lt_of_heap hc) (hl g hg)).trans hc,rfl⟩
theorem SpL.ent {w:World} {v:Value} {n:Nat} {z:Int} (h:SpL w v n (fun _=>(z,0))):Ent w v z:=by
 rcases h.2 with ⟨q,_⟩|⟨g,cap,cur,rfl,_,hg,h1,hcm,_,h2⟩
 ·exact Or.inl ⟨0,q⟩
 ·exact Or.inr ⟨g,n,cap,cur,rfl,⟨h1,hcm⟩,hg,h2⟩
def Lies (T:List Nat) (wc:World) (v:Value):Prop:=∀ g,v.ownBlock=some g→g∈T∨wc.heap.size≤g
theorem Lies.loc {T:List Nat} {wc w:World} {v v':Value} (h:Lies T wc v) (hs:wc.heap.size≤w.heap.size) (hl:v'.ownBlock=v.ownBlock∨v'.ownBlock=some w.heap.size):Lies T wc v':=fun g hg=>by
 rcases hl with e|e
 ·exact h g (by rw [← e];exact hg)
 ·rw [e] at hg;injection hg with hg;exact Or.inr (by omega)
structure BkAt (B0:Nat) (w:World) (b k:Nat) (n:Int) (vS vN vR vQ:Value) (es:List (Value×Int)):Prop where
 cell:w.heap[b]?=some (.cells #[.int .i64 n,vS,vN,vR,vQ] 36 (0,0))
 s:w.ownsRow B0 37 1 vS k (es.map (·.1))
 n:w.ownsRow B0 3 1 vN k (es.map fun x=>.int .i64 x.2)
 bb:B0≤b
 ent:∀ x∈es,Ent w x.1 x.2
 one:∀ x∈es,x.1.oneCell'=true
theorem own_tyC {w:World} {base k n:Nat} {T:TypeId} {z:Nat} {v:Value} {xs:List Value} (h:w.ownsRow base T z v n xs) (hk:v.ownBlock=some k):∃ a,w.heap[k]?=some (.cells a T (0,0)):=by
 rcases h.2 with ⟨q,_⟩|⟨g,cap,cur,rfl,_,e3,_⟩
 ·subst q;cases hk
 ·simp [Value.ownBlock] at hk;subst hk;exact⟨_,e3⟩
theorem ty_neC {w:World} {k q:Nat} {T U:TypeId} {a c:Array Value} (h:w.heap[k]?=some (.cells a T (0,0))) (h':w.heap[q]?=some (.cells c U (0,0))) (hT:T≠U):k≠q:=by
 rintro rfl
 rw [h] at h'
 injection h' with h'
 injection h' with _ h' _
 exact hT h'
theorem Ent.ty {w:World} {v:Value} {z:Int} (h:Ent w v z) {g:Nat} (hg:v.ownBlock=some g):∃ a,w.heap[g]?=some (.cells a 66 (0,0)):=by
 rcases h with ⟨c,q⟩|⟨g',n',cap',cur',q,_,q2,_⟩
 ·rw [q] at hg;cases hg
 ·rw [q] at hg;simp [Value.ownBlock] at hg;subst hg;exact⟨_,q2⟩
structure BcAt (T:List Nat) (e0:List (Value×Int)) (B0:Nat) (wc w:World) (b M:Nat) (n z:Int) (cS cN vR vQ vS vN:Value) (kS kN:Nat) (xs ys:List Value) (es:List (Value×Int)) (vl:Value) (ln:Nat):Prop where
 cell:w.heap[b]?=some (.cells #[.int .i64 n,cS,cN,vR,vQ] 36 (0,0))
 s:w.ownsRow B0 37 1 vS kS xs
 n:w.ownsRow B0 3 1 vN kN ys
 ent:∀ x∈es,Ent w x.1 x.2
 far:∀ x∈es,∀ g,x.1.ownBlock=some g→vl.ownBlock=some g→vLen x.1≤ln
 mark:w.heap[M]?=some (.cells #[.int .i64 z,.int .i64 0] 66 (0,0))
 notM:∀ x∈es,x.1.ownBlock≠some M
 lM:vl.ownBlock≠some M
 l:SpO w B0 vl ln (fun _=>(z,0))
 up:Upd T wc w
 bb:B0≤b
 ts:Lies T wc vS
 tn:Lies T wc vN
 tl:Lies T wc vl
 tb:b∈T∨wc.heap.size≤b
 hB:B0≤wc.heap.size
 new:∀ x∈es,x∈e0∨Lies T wc x.1
theorem BcAt.upd {T:List Nat} {e0:List (Value×Int)} {B0:Nat} {wc w w':World} {b M:Nat} {n z:Int} {cS cN vR vQ vS vN:Value} {kS kN:Nat} {xs ys:List Value} {es:List (Value×Int)} {vl:Value} {ln:Nat} (h:BcAt T e0 B0 wc w b M n z cS cN vR vQ vS vN kS kN xs ys es vl ln) (u:Upd [] w w'):BcAt T e0 B0 wc w' b M n z cS cN vR vQ vS vN kS kN xs ys es vl ln:=
 ⟨(u.block b (lt_of_heap h.cell) (by simp)).trans h.cell,ownsRow_same h.s (fun q _ hlt=>u.block q hlt (by simp)),ownsRow_same h.n (fun q _ hlt=>u.block q hlt (by simp)),fun x hx=>(h.ent x hx).upd u (by simp),h.far,(u.block M (lt_of_heap h.mark) (by simp)).trans h.mark,h.notM,h.lM,h.l.upd u (by simp),h.up.trans (u.mono (by simp)),h.bb,h.ts,h.tn,h.tl,h.tb,h.hB,h.new⟩
theorem BcAt.moreS {T:List Nat} {e0:List (Value×Int)} {B0:Nat} {wc w w':World} {b M:Nat} {n z:Int} {cS cN vR vQ vS vN vS':Value} {kS kN kS':Nat} {xs ys xs':List Value} {es:List (Value×Int)} {vl:Value} {ln:Nat} (h:BcAt T e0 B0 wc w b M n z cS cN vR vQ vS vN kS kN xs ys es vl ln) (g:w.grownBy w' vS.ownBlock) (hs:w'.ownsRow B0 37 1 vS' kS' xs') (hloc:vS'.ownBlock=vS.ownBlock∨vS'.ownBlock=some w.heap.size):BcAt T e0 B0 wc w' b M n z cS cN vR vQ vS' vN kS' kN xs' ys es vl ln:=by
 have u:=Upd.of_grown g
 have hty:∀ {q:Nat} {a:Array Value} {T:TypeId},w.heap[q]?=some (.cells a T (0,0))→T≠37→q∉vS.ownBlock.toList:=fun {q a T} hq hT hm=>by
  obtain⟨c,hc⟩:=own_tyC h.s (k:=q) (by simpa using hm)
  exact ty_neC hq hc hT rfl
 refine⟨(u.block b (lt_of_heap h.cell) (hty h.cell (by decide))).trans h.cell,hs,ownsRow_same h.n (fun q hq hlt=>u.block q hlt ?_),fun x hx=>(h.ent x hx).upd u (fun q hq=>?_),h.far,(u.block M (lt_of_heap h.mark) (hty h.mark (by decide))).trans h.mark,h.notM,h.lM,h.l.upd u (fun q hq=>?_),low_grown h.up g h.ts,h.bb,h.ts.loc h.up.size hloc,h.tn,h.tl,h.tb,h.hB,h.new⟩
 ·obtain⟨a,ha⟩:=own_tyC h.n hq;exact hty ha (by decide)
 ·obtain⟨a,ha⟩:=(h.ent x hx).ty hq;exact hty ha (by decide)
 ·obtain⟨a,ha⟩:=own_tyC h.l hq;exact hty ha (by decide)
theorem BcAt.moreN {T:List Nat} {e0:List (Value×Int)} {B0:Nat} {wc w w':World} {b M:Nat} {n z:Int} {cS cN vR vQ vS vN vN':Value} {kS kN kN':Nat} {xs ys ys':List Value} {es:List (Value×Int)} {vl:Value} {ln:Nat} (h:BcAt T e0 B0 wc w b M n z cS cN vR vQ vS vN kS kN xs ys es vl ln) (g:w.grownBy w' vN.ownBlock) (hs:w'.ownsRow B0 3 1 vN' kN' ys') (hloc:vN'.ownBlock=vN.ownBlock∨vN'.ownBlock=some w.heap.size):BcAt T e0 B0 wc w' b M n z cS cN vR vQ vS vN' kS kN' xs ys' es vl ln:=by
 have u:=Upd.of_grown g
 have hty:∀ {q:Nat} {a:Array Value} {T:TypeId},w.heap[q]?=some (.cells a T (0,0))→T≠3→q∉vN.ownBlock.toList:=fun {q a T} hq hT hm=>by
  obtain⟨c,hc⟩:=own_tyC h.n (k:=q) (by simpa using hm)
  exact ty_neC hq hc hT rfl
 refine⟨(u.block b (lt_of_heap h.cell) (hty h.cell (by decide))).trans h.cell,ownsRow_same h.s (fun q hq hlt=>u.block q hlt ?_),hs,fun x hx=>(h.ent x hx).upd u (fun q hq=>?_),h.far,(u.block M (lt_of_heap h.mark) (hty h.mark (by decide))).trans h.mark,h.notM,h.lM,h.l.upd u (fun q hq=>?_),low_grown h.up g h.tn,h.bb,h.ts,h.tn.loc h.up.size hloc,h.tl,h.tb,h.hB,h.new⟩
 ·obtain⟨a,ha⟩:=own_tyC h.s hq;exact hty ha (by decide)
 ·obtain⟨a,ha⟩:=(h.ent x hx).ty hq;exact hty ha (by decide)
 ·obtain⟨a,ha⟩:=own_tyC h.l hq;exact hty ha (by decide)
theorem BcAt.put {T:List Nat} {e0:List (Value×Int)} {B0:Nat} {wc w:World} {b M o:Nat} {n z:Int} {cS cN vR vQ vS vN cS' cN' u0:Value} {kS kN:Nat} {xs ys:List Value} {es:List (Value×Int)} {vl:Value} {ln:Nat} (h:BcAt T e0 B0 wc w b M n z cS cN vR vQ vS vN kS kN xs ys es vl ln) (e:(#[.int .i64 n,cS,cN,vR,vQ]:Array Value).setIfInBounds o u0=#[.int .i64 n,cS',cN',vR,vQ]):BcAt T e0 B0 wc (w.setCell ⟨b,o,none⟩ u0) b M n z cS' cN' vR vQ vS vN kS kN xs ys es vl ln:=by
 have u:Upd [b] w (w.setCell ⟨b,o,none⟩ u0):=Upd.setCell (Upd.refl _ _) (by simp) _
 have hty:∀ {q:Nat} {a:Array Value} {T:TypeId},w.heap[q]?=some (.cells a T (0,0))→T≠36→q∉[b]:=fun {q a T} hq hT hm=>by
  have:q=b:=by simpa using hm
  exact ty_neC hq h.cell hT this
 refine⟨by rw [heap_set h.cell o u0,e],ownsRow_same h.s (fun q hq hlt=>u.block q hlt ?_),ownsRow_same h.n (fun q hq hlt=>u.block q hlt ?_),fun x hx=>(h.ent x hx).upd u (fun q hq=>?_),h.far,(u.block M (lt_of_heap h.mark) (hty h.mark (by decide))).trans h.mark,h.notM,h.lM,h.l.upd u (fun q hq=>?_),low_upd h.up u (fun q hq=>by have e:q=b:=(by simpa using hq);subst e;exact h.tb),h.bb,h.ts,h.tn,h.tl,h.tb,h.hB,h.new⟩
 ·obtain⟨a,ha⟩:=own_tyC h.s hq;exact hty ha (by decide)
 ·obtain⟨a,ha⟩:=own_tyC h.n hq;exact hty ha (by decide)
 ·obtain⟨a,ha⟩:=(h.ent x hx).ty hq;exact hty ha (by decide)
 ·obtain⟨a,ha⟩:=own_tyC h.l hq;exact hty ha (by decide)
theorem BcAt.entry {T:List Nat} {e0:List (Value×Int)} {B0:Nat} {wc w:World} {b M:Nat} {n z:Int} {cS cN vR vQ vS vN:Value} {kS kN:Nat} {xs ys:List Value} {es:List (Value×Int)} {vl:Value} {ln:Nat} (h:BcAt T e0 B0 wc w b M n z cS cN vR vQ vS vN kS kN xs ys es vl ln) (hl:vLen vl=ln):BcAt T e0 B0 wc w b M n z cS cN vR vQ vS vN kS kN xs ys (es++[(vl,z)]) vl ln:=by
 have sp:∀ x,x∈es++[(vl,z)]→x∈es∨x=(vl,z):=fun x hx=>by simpa using hx
 refine⟨h.cell,h.s,h.n,fun x hx=>?_,fun x hx g h1 h2=>?_,h.mark,fun x hx=>?_,h.lM,h.l,h.up,h.bb,h.ts,h.tn,h.tl,h.tb,h.hB,fun x hx=>?_⟩
 ·rcases sp x hx with q|rfl
  ·exact h.ent x q
  ·exact h.l.l.ent
 ·rcases sp x hx with q|rfl
  ·exact h.far x q g h1 h2
  ·exact Nat.le_of_eq hl
 ·rcases sp x hx with q|rfl
  ·exact h.notM x q
  ·exact h.lM
 ·rcases sp x hx with q|rfl
  ·exact h.new x q
  ·exact Or.inr h.tl
theorem take_take {cur cur':List Value} {a c:Nat} (hac:a≤c) (h:cur'.take c=cur.take c):cur'.take a=cur.take a:=by
 have e1:(cur'.take c).take a=cur'.take a:=by rw [List.take_take,Nat.min_eq_left hac]
 have e2:(cur.take c).take a=cur.take a:=by rw [List.take_take,Nat.min_eq_left hac]
 rw [← e1,← e2,h]
theorem BcAt.moreL {T:List Nat} {e0:List (Value×Int)} {B0:Nat} {wc w w':World} {b M:Nat} {n z:Int} {cS cN vR vQ vS vN vl vl':Value} {kS kN:Nat} {xs ys:List Value} {es:List (Value×Int)} {ln:Nat} (h:BcAt T e0 B0 wc w b M n z cS cN vR vQ vS vN kS kN xs ys es vl ln) (g:w.grownBy w' vl.ownBlock) (hs:w'.ownsRow B0 66 2 vl' (ln+1) (flat ln (fun _=>(z,0))++[.int .i64 z,.int .i64 0])) (hloc:vl'.ownBlock=vl.ownBlock∨(vl'.ownBlock=some w.heap.size∧w.grownBy w' none)):BcAt T e0 B0 wc w' b M n z cS cN vR vQ vS vN kS kN xs ys es vl' (ln+1):=by
 have u:=Upd.of_grown g
 have hty:∀ {q:Nat} {a:Array Value} {T:TypeId},w.heap[q]?=some (.cells a T (0,0))→T≠66→q∉vl.ownBlock.toList:=fun {q a T} hq hT hm=>by
  obtain⟨c,hc⟩:=own_tyC h.l (k:=q) (by simpa using hm)
  exact ty_neC hq hc hT rfl
 have hL:SpO w' B0 vl' (ln+1) (fun _=>(z,0)):=by
  have e:flat ln (fun _=>(z,0))++[.int .i64 z,.int .i64 0]=flat (ln+1) (fun _=>(z,(0:Int))):=by
   rw [← flat_one,flat_append];exact flat_congr (fun k hk=>by split<;>rfl)
  rw [e] at hs;exact hs
 have hblk:∀ q cur,w.heap[q]?=some (.cells cur 66 (0,0))→vl.ownBlock=some q→∃ cur',w'.heap[q]?=some (.cells cur' 66 (0,0))∧cur'.toList.take (ln * 2)=cur.toList.take (ln * 2):=fun q cur hc hq=>by
  rcases hloc with e|⟨e,gn⟩
  ·obtain⟨h1,h2⟩:=hs
   rcases h2 with ⟨p,_⟩|⟨g',cap',cur',p,_,p3,_,_,_,p7⟩
   ·rw [p] at e;rw [hq] at e;cases e
   ·rw [p,hq] at e;simp [Value.ownBlock] at e;subst e
    refine⟨cur',p3,?_⟩
    obtain⟨_,l2⟩:=h.l
    rcases l2 with ⟨l3,_⟩|⟨g2,cap2,cur2,l3,_,l5,_,_,_,l9⟩
    ·rw [l3] at hq;cases hq
    ·rw [l3] at hq;simp [Value.ownBlock] at hq;subst hq
     rw [hc] at l5
     injection l5 with l5
     injection l5 with l5 _ _
     subst l5
     rw [l9]
     have e1:(cur'.toList.take ((ln+1) * 2)).take (ln * 2)=cur'.toList.take (ln * 2):=by rw [List.take_take,Nat.min_eq_left (by omega)]
     rw [← e1,p7]
     have e2:(flat ln (fun _=>(z,(0:Int)))).length=ln * 2:=flat_length _ _
     rw [← e2];exact List.take_left
  ·exact⟨cur,((Upd.of_grown gn).block q (lt_of_heap hc) (by simp)).trans hc,rfl⟩
 refine⟨(u.block b (lt_of_heap h.cell) (hty h.cell (by decide))).trans h.cell,ownsRow_same h.s (fun q hq hlt=>u.block q hlt ?_),ownsRow_same h.n (fun q hq hlt=>u.block q hlt ?_),fun x hx=>(h.ent x hx).keep (fun q cur hq hc=>?_),fun x hx q h1 h2=>?_,(u.block M (lt_of_heap h.mark) (fun hm=>h.lM (by simpa using hm))).trans h.mark,h.notM,fun hm=>?_,hL,low_grown h.up g h.tl,h.bb,h.ts,h.tn,h.tl.loc h.up.size (hloc.imp id (fun q=>q.1)),h.tb,h.hB,h.new⟩
 ·obtain⟨a,ha⟩:=own_tyC h.s hq;exact hty ha (by decide)
 ·obtain⟨a,ha⟩:=own_tyC h.n hq;exact hty ha (by decide)
 ·by_cases hv:vl.ownBlock=some q
  ·obtain⟨cur',e1,e2⟩:=hblk q cur hc hv
   have:=h.far x hx q hq hv
   exact⟨cur',e1,take_take (by omega) e2⟩
  ·exact⟨cur,(u.block q (lt_of_heap hc) (by simpa using hv)).trans hc,rfl⟩
 ·rcases hloc with e|⟨e,_⟩
  ·have:=h.far x hx q h1 (by rw [← e];exact h2);omega
  ·obtain⟨a,ha⟩:=(h.ent x hx).ty h1
   rw [e] at h2
   have:=lt_of_heap ha
   injection h2 with h2
   omega
 ·rcases hloc with e|⟨e,_⟩
  ·exact h.lM (by rw [← e];exact hm)
  ·rw [e] at hm
   have:=lt_of_heap h.mark
   injection hm with hm
   omega
theorem own_ty {w:World} {base k n:Nat} {T:TypeId} {z:Nat} {v:Value} {xs:List Value} (h:w.ownsRow base T z v n xs) (hk:v.ownBlock=some k):∃ a,w.heap[k]?=some (.cells a T (0,0)):=by
 rcases h.2 with ⟨q,_⟩|⟨g,cap,cur,rfl,_,e3,_⟩
 ·subst q;cases hk
 ·simp [Value.ownBlock] at hk;subst hk;exact⟨_,e3⟩
theorem ty_ne {w:World} {k q:Nat} {T U:TypeId} {a c:Array Value} (h:w.heap[k]?=some (.cells a T (0,0))) (h':w.heap[q]?=some (.cells c U (0,0))) (hT:T≠U):k≠q:=by
 rintro rfl
 rw [h] at h'
 injection h' with h'
 injection h' with _ h' _
 exact hT h'
structure BsAt (T:List Nat) (e0:List (Value×Int)) (B0:Nat) (wc w:World) (b k M:Nat) (n z:Int) (vS vN vR vQ:Value) (es:List (Value×Int)) (vl:Value) (ln:Nat) (f:Nat→Int×Int):Prop where
 cell:w.heap[b]?=some (.cells #[.int .i64 n,vS,vN,vR,vQ] 36 (0,0))
 s:w.ownsRow B0 37 1 vS k (es.map (·.1))
 n:w.ownsRow B0 3 1 vN k (es.map fun x=>.int .i64 x.2)
 ent:∀ x∈es,Ent w x.1 x.2
 far:∀ x∈es,∀ g,x.1.ownBlock=some g→vl.ownBlock=some g→vLen x.1≤ln
 mark:w.heap[M]?=some (.cells #[.int .i64 z,.int .i64 0] 66 (0,0))
 notM:∀ x∈es,x.1.ownBlock≠some M
 lM:vl.ownBlock≠some M
 l:SpO w B0 vl ln f
 one:∀ x∈es,x.1.oneCell'=true
 up:Upd T wc w
 bb:B0≤b
 ts:Lies T wc vS
 tn:Lies T wc vN
 tl:Lies T wc vl
 tb:b∈T∨wc.heap.size≤b
 hB:B0≤wc.heap.size
 new:∀ x∈es,x∈e0∨Lies T wc x.1
theorem BsAt.put {T:List Nat} {e0:List (Value×Int)} {B0:Nat} {wc w:World} {b k M g m cap c:Nat} {n z:Int} {vS vN vR vQ:Value} {es:List (Value×Int)} {f:Nat→Int×Int} (h:BsAt T e0 B0 wc w b k M n z vS vN vR vQ es (.slice (some ⟨g,0,none⟩) m cap) m f) (hc:c < m) (hfar:∀ x∈es,x.1.ownBlock≠some g) :
  BsAt T e0 B0 wc ((w.setCell ⟨g,c * 2,none⟩ (.int .i64 z)).setCell ⟨g,c * 2+1,none⟩ (.int .i64 0)) b k M n z vS vN vR vQ es (.slice (some ⟨g,0,none⟩) m cap) m (fun q=>if q=c then (z,0) else f q):=by
 have u:Upd [g] w ((w.setCell ⟨g,c * 2,none⟩ (.int .i64 z)).setCell ⟨g,c * 2+1,none⟩ (.int .i64 0)):=Upd.setCell (Upd.setCell (Upd.refl _ _) (by simp) _) (by simp) _
 obtain⟨ga,hga⟩:=own_ty h.l (k:=g) rfl
 have nb:b≠g:=ty_ne h.cell hga (by decide)
 have nM:M≠g:=fun e=>h.lM (by rw [e];rfl)
 refine⟨(u.block b (lt_of_heap h.cell) (by simpa using nb)).trans h.cell,ownsRow_same h.s (fun q hq hlt=>u.block q hlt ?_),ownsRow_same h.n (fun q hq hlt=>u.block q hlt ?_),fun x hx=>(h.ent x hx).upd u (fun q hq=>?_),h.far,(u.block M (lt_of_heap h.mark) (by simpa using nM)).trans h.mark,h.notM,h.lM,?_,h.one,low_upd h.up u (fun q hq=>by have e:q=g:=(by simpa using hq);subst e;exact h.tl q rfl),h.bb,h.ts,h.tn,h.tl,h.tb,h.hB,h.new⟩
 ·obtain⟨a,ha⟩:=own_ty h.s hq
  simpa using ty_ne ha hga (by decide)
 ·obtain⟨a,ha⟩:=own_ty h.n hq
  simpa using ty_ne ha hga (by decide)
 ·simp;intro e;exact hfar x hx (by rw [hq,e])
 ·obtain⟨h1,h2⟩:=h.l
  rcases h2 with ⟨q,_⟩|⟨g',cap',cur,q,e2,e3,e4,e5,e6,e7⟩
  ·cases q
  ·injection q with q1 q2 q3
   injection q1 with q1
   injection q1 with q1 _ _
   subst q1 q3
   refine⟨flat_length _ _,Or.inr ⟨g,cap,(cur.setIfInBounds (c * 2) (.int .i64 z)).setIfInBounds (c * 2+1) (.int .i64 0),rfl,e2,heap_set (heap_set e3 _ _) _ _,e4,e5,by simp [e6],?_⟩⟩
   apply List.ext_getElem?
   intro j
   rw [flat_get]
   rcases Nat.lt_or_ge j (m * 2) with hj|hj
   ·have hj2:j < 2 * m:=by omega
    rw [List.getElem?_take_of_lt hj,Array.getElem?_toList,Array.getElem?_setIfInBounds,Array.getElem?_setIfInBounds,if_pos hj2]
    have hcur:cur[j]?=(flat m f)[j]?:=by rw [← e7,List.getElem?_take_of_lt hj,Array.getElem?_toList]
    rw [flat_get,if_pos (by omega)] at hcur
    simp only [Array.size_setIfInBounds]
    by_cases j1:c * 2+1=j
    ·subst j1
     rw [if_pos rfl,if_pos (by omega),if_neg (by omega),show (c * 2+1) / 2=c by omega,if_pos rfl]
    ·rw [if_neg j1]
     by_cases j2:c * 2=j
     ·subst j2
      rw [if_pos rfl,if_pos (by omega),if_pos (by omega),show c * 2 / 2=c by omega,if_pos rfl]
     ·rw [if_neg j2,hcur]
      have:j / 2≠c:=by omega
      simp [this]
   ·rw [List.getElem?_eq_none (by simp;omega),if_neg (by omega)]
structure BlInv (T:List Nat) (e0:List (Value×Int)) (B0:Nat) (wc:World) (b k M:Nat) (n z:Int) (vS vN vR vQ:Value) (es:List (Value×Int)) (vl:Value) (m:Nat) (f:Nat→Int×Int) (gn:Nat) (vi:Value) (wr:World):Prop where
 st:∃ c:Nat,vi=.int .i64 c∧c+gn=m∧BsAt T e0 B0 wc wr b k M n z vS vN vR vQ es vl m (fun q=>if q < c then (z,0) else f q)
theorem lInfoSl:∃ i,Tryz.prog.info? 37=some i∧i.zero=some (.slice none 0 0)∧i.size=1∧i.bytes=24:=by
 have h:(Tryz.prog.info? 37).map (fun i=>(i.zero,i.size,i.bytes))=some (some (.slice none 0 0),1,24):=by kernel_rfl
 cases hi:Tryz.prog.info? 37 with
 | none=>rw [hi] at h;cases h
 | some i=>
  rw [hi] at h
  simp only [Option.map_some,Option.some.injEq,Prod.mk.injEq] at h
  exact⟨i,rfl,h.1,h.2.1,h.2.2⟩
theorem lInfoInt:∃ i,Tryz.prog.info? 3=some i∧i.zero=some (.int .i64 0)∧i.size=1∧i.bytes=8:=by
 have h:(Tryz.prog.info? 3).map (fun i=>(i.zero,i.size,i.bytes))=some (some (.int .i64 0),1,8):=by kernel_rfl
 cases hi:Tryz.prog.info? 3 with
 | none=>rw [hi] at h;cases h
 | some i=>
  rw [hi] at h
  simp only [Option.map_some,Option.some.injEq,Prod.mk.injEq] at h
  exact⟨i,rfl,h.1,h.2.1,h.2.2⟩
structure BmInv (T:List Nat) (e0:List (Value×Int)) (B0:Nat) (wc:World) (b k M m:Nat) (n z:Int) (vR vQ:Value) (gn:Nat) (vl vk:Value) (wr:World):Prop where
 st:∃ (c ln:Nat) (vS vN:Value) (es:List (Value×Int)),vk=.int .i64 c∧c+gn=4∧ln=m+c∧vLen vl=ln∧BcAt T e0 B0 wc wr b M n z vS vN vR vQ vS vN (k+c) (k+c) (es.map (·.1)) (es.map fun x=>.int .i64 x.2) es vl ln∧(∀ x∈es,x.1.oneCell'=true)
theorem BsAt.core {T:List Nat} {e0:List (Value×Int)} {B0:Nat} {wc w:World} {b k M c m:Nat} {n z:Int} {vS vN vR vQ:Value} {es:List (Value×Int)} {vl:Value} {f:Nat→Int×Int} (h:BsAt T e0 B0 wc w b k M n z vS vN vR vQ es vl m (fun q=>if q < c then (z,0) else f q)) (hc:m≤c):BcAt T e0 B0 wc w b M n z vS vN vR vQ vS vN k k (es.map (·.1)) (es.map fun x=>.int .i64 x.2) es vl m:=by
 refine⟨h.cell,h.s,h.n,h.ent,h.far,h.mark,h.notM,h.lM,?_,h.up,h.bb,h.ts,h.tn,h.tl,h.tb,h.hB,h.new⟩
 have e:flat m (fun q=>if q < c then (z,(0:Int)) else f q)=flat m (fun _=>(z,0)):=flat_congr (fun q hq=>by rw [if_pos (by omega)])
 obtain⟨h1,h2⟩:=h.l
 rw [e] at h1 h2
 refine⟨h1,?_⟩
 rcases h2 with q|⟨g,cap,cur,e1,e2,e3⟩
 ·exact Or.inl q
 ·exact Or.inr ⟨g,cap,cur,e1,e2,e3⟩
theorem row_form {w:World} {base n z:Nat} {T:TypeId} {v:Value} {xs:List Value} (h:w.ownsRow base T z v n xs):∃ a c,v=.slice a n c∧n≤c:=by
 rcases h.2 with ⟨q,q'⟩|⟨g,cap,cur,h1,_,_,h2,_⟩
 ·exact⟨none,0,by rw [q,q'],by omega⟩
 ·exact⟨_,cap,h1,h2⟩
theorem vl_form {w:World} {vl:Value} {ln:Nat} {f:Nat→Int×Int} (h:SpL w vl ln f):∃ a c,vl=.slice a ln c∧ln≤c:=by
 rcases h.2 with ⟨q,q'⟩|⟨g,cap,cur,h1,_,_,h2,_⟩
 ·exact⟨none,0,by rw [q,q'],by omega⟩
 ·exact⟨_,cap,h1,h2⟩
theorem cells_twoZ (w:World) (a b:Int):∀ (j:Nat) (u:Value),([.int .i64 a,.int .i64 b]:List Value)[j]?=some u→(w.alloc (.cells #[.int .i64 a,.int .i64 b] 66)).cell? ((⟨w.heap.size,0,none⟩:Addr).add j)=some u:=by
 intro j u h
 have hb:(w.alloc (.cells #[.int .i64 a,.int .i64 b] 66)).heap[w.heap.size]?=some (.cells #[.int .i64 a,.int .i64 b] 66 (0,0)):=heap_new rfl
 have e0:(⟨w.heap.size,0,none⟩:Addr).add j=⟨w.heap.size,j,none⟩:=by simp [Addr.add];omega
 rw [e0,World.cell?,hb]
 show (#[.int .i64 a,.int .i64 b]:Array Value)[j]?=some u
 rw [← Array.getElem?_toList]
 exact h
theorem BmInv.step {T:List Nat} {e0:List (Value×Int)} {B0:Nat} {b k M m d ln gm:Nat} {n z:Int} {vR vQ vS vN vl vl':Value} {es:List (Value×Int)} {wc w:World} (h:BcAt T e0 B0 wc w b M n z vS vN vR vQ vS vN (k+d+1) (k+d+1) (es.map (·.1)++[vl]) ((es.map fun x=>.int .i64 x.2)++[.int .i64 z]) (es++[(vl,z)]) vl' (ln+1)) (h1:∀ x∈es,x.1.oneCell'=true) (h2:vl.oneCell'=true) (h3:ln=m+d) (h4:d+1+gm=4):BmInv T e0 B0 wc b k M m n z vR vQ gm vl' (.int .i64 ((d+1:Nat):Int)) w:=by
 obtain⟨a,c,e,_⟩:=vl_form h.l.l
 refine⟨d+1,ln+1,vS,vN,es++[(vl,z)],rfl,h4,by omega,by rw [e];rfl,?_,fun x hx=>?_⟩
 ·rw [List.map_append,List.map_append];exact h
 ·have:x∈es∨x=(vl,z):=by simpa using hx
  rcases this with q|rfl
  ·exact h1 x q
  ·exact h2
theorem one_cell (w:World) (x:Value) (T:TypeId):∀ j u,[x][j]?=some u→(w.alloc (.cells #[x] T)).cell? ((⟨w.heap.size,0,none⟩:Addr).add j)=some u:=cell_one_new w x T
set_option maxRecDepth 8000 in
set_option maxHeartbeats 1600000 in
theorem bSpans_any (B0 b k:Nat) (n:Int) (vS vN vR vQ:Value) (es:List (Value×Int)) (w:World) (v:Value) (m:Nat) (f:Nat→Int×Int) (T:List Nat) (B:BkAt B0 w b k n vS vN vR vQ es) (L:SpO w B0 v m f) (hFar:∀ x∈es,∀ g,v.ownBlock=some g→x.1.ownBlock≠some g) (hT:T=b::(vS.ownBlock.toList++(vN.ownBlock.toList++v.ownBlock.toList))) (hB0:B0≤w.heap.size) (hm:m≤20) (hk:k≤60000000) (hn:0≤n∧n≤60000000):Calls Tryz.prog 11 #[.pointer (some ⟨b,0,none⟩),v] w fun e w'=>∃ vS' vN' es',e=.returned (.tuple #[])∧BkAt B0 w' b (k+4) (n+1) vS' vN' vR vQ es'∧Upd T w w'∧Lies T w vS'∧Lies T w vN'∧(∀ x∈es',x∈es∨Lies T w x.1):=by
 have b0:w.cell? ⟨b,0,none⟩=some (.int .i64 n):=by rw [World.cell?,B.cell];rfl
 have fz:∀ o,w.frozen? ⟨b,o,none⟩=false:=fun o=>by rw [World.frozen?,B.cell];rfl
 have LS:Hid (Lies T w vS):=fun g hg=>Or.inl (by rw [hT,hg];simp)
 have LN:Hid (Lies T w vN):=fun g hg=>Or.inl (by rw [hT,hg];simp)
 have LV:Hid (Lies T w v):=fun g hg=>Or.inl (by rw [hT,hg];simp)
 have LB:Hid (b∈T):=by show _∈_;rw [hT];simp
 obtain⟨ad,cp,rfl,hcp⟩:∃ a c,v=.slice a m c∧m≤c:=by
  rcases L.2 with ⟨q,q'⟩|⟨g,cap,cur,h1,_,_,h2,_⟩
  ·exact⟨none,0,by rw [q,q'],by omega⟩
  ·exact⟨_,cap,h1,h2⟩
 have HB:Hid (BkAt B0 w b k n vS vN vR vQ es):=B
 have HL:Hid (SpO w B0 (.slice ad m cp) m f):=L
 have HHF:Hid (∀ x∈es,∀ g,(Value.slice ad m cp).ownBlock=some g→x.1.ownBlock≠some g):=hFar
 have HB0:Hid (B0≤w.heap.size):=hB0
 clear B L hFar hT hB0
 go_enter Tryz.func11,Tryz.ntmps11
 go_wp2_with fail
 obtain⟨z,hz⟩:∃ z,z=-10 - (n+1):=⟨_,rfl⟩
 have START:BlInv T es B0 w b k w.heap.size (n+1) z vS vN vR vQ es (.slice ad m cp) m f m (.int .i64 0) ((w.setCell ⟨b,0,none⟩ (.int .i64 (n+1))).alloc (.cells #[.int .i64 z,.int .i64 0] 66)):=by
  have u:Upd [b] w ((w.setCell ⟨b,0,none⟩ (.int .i64 (n+1))).alloc (.cells #[.int .i64 z,.int .i64 0] 66)):=Upd.alloc (Upd.setCell (Upd.refl _ _) (by simp) _) _
  have hsz:(w.setCell ⟨b,0,none⟩ (.int .i64 (n+1))).heap.size=w.heap.size:=by simp [World.setCell]
  have hb0:=lt_of_heap HB.out.cell
  refine⟨0,rfl,by omega,⟨?_,?_,?_,?_,?_,heap_new hsz.symm,?_,?_,?_,HB.out.one,u.mono (fun q hq=>by have e:q=b:=(by simpa using hq);subst e;exact LB.out),HB.out.bb,LS.out,LN.out,LV.out,Or.inl LB.out,HB0.out,fun x hx=>Or.inl hx⟩⟩
  ·exact (Below.heap_alloc _ _ _ (by rw [hsz];omega)).trans (heap_set HB.out.cell 0 _)
  ·refine ownsRow_same HB.out.s (fun q hq hlt=>u.block q hlt ?_)
   obtain⟨a,ha⟩:=own_ty HB.out.s hq
   simpa using ty_ne ha HB.out.cell (by decide)
  ·refine ownsRow_same HB.out.n (fun q hq hlt=>u.block q hlt ?_)
   obtain⟨a,ha⟩:=own_ty HB.out.n hq
   simpa using ty_ne ha HB.out.cell (by decide)
  ·intro x hx
   refine (HB.out.ent x hx).keep (fun g cur hg hc=>⟨cur,(u.block g (lt_of_heap hc) ?_).trans hc,rfl⟩)
   simp
   exact ty_ne hc HB.out.cell (by decide)
  ·intro x hx g h1 h2
   exact absurd h1 (HHF.out x hx g h2)
  ·intro x hx h1
   rcases HB.out.ent x hx with ⟨c,q⟩|⟨g',n',cap',cur',q,_,q2,_⟩
   ·rw [q] at h1;cases h1
   ·rw [q] at h1;simp [Value.ownBlock] at h1;have:=lt_of_heap q2;omega
  ·intro h1
   have:=(ownBlock_lt HL.out h1).1;omega
  ·have:SpO ((w.setCell ⟨b,0,none⟩ (.int .i64 (n+1))).alloc (.cells #[.int .i64 z,.int .i64 0] 66)) B0 (.slice ad m cp) m f:=ownsRow_same HL.out (fun q hq hlt=>u.block q hlt (by
    obtain⟨a,ha⟩:=own_ty HL.out hq
    simp
    exact ty_ne ha HB.out.cell (by decide)))
   have e:(fun q=>if q < 0 then (z,(0:Int)) else f q)=f:=by funext q;simp
   rw [e];exact this
 have HFAR:Hid (∀ x∈es,∀ g,ad=some ⟨g,0,none⟩→x.1.ownBlock≠some g):=fun x hx g ha=>HHF.out x hx g (by rw [ha];rfl)
 have HST:Hid (BlInv T es B0 w b k w.heap.size (n+1) z vS vN vR vQ es (.slice ad m cp) m f m (.int .i64 0) ((w.setCell ⟨b,0,none⟩ (.int .i64 (n+1))).alloc (.cells #[.int .i64 z,.int .i64 0] 66))):=START
 have HZ:Hid (z=-10 - (n+1)):=hz
 rw [← hz]
 clear START hz b0 fz
 generalize hM:w.heap.size=M at *
 go_loopg [5] m (fun gn vi wr=>BlInv T es B0 w b k M (n+1) z vS vN vR vQ es (.slice ad m cp) m f gn vi wr)
 case atStart=>exact HST.out
 case round=>
  obtain⟨c,hvi,hcg,hB⟩:=hrel.st
  subst hvi
  have HBS:Hid (BsAt T es B0 w wr b k M (n+1) z vS vN vR vQ es (.slice ad m cp) m (fun q=>if q < c then (z,0) else f q)):=hB
  have m0:wr.cell? ⟨M,0,none⟩=some (.int .i64 z):=by rw [World.cell?,hB.mark];rfl
  have m1:wr.cell? ⟨M,1,none⟩=some (.int .i64 0):=by rw [World.cell?,hB.mark];rfl
  by_cases hlt:c < m
  ·obtain⟨gm,hgm⟩:∃ q,gk=q+1:=⟨gk - 1,by omega⟩
   have hlt':(c:Int) < m:=by omega
   obtain⟨g,hg⟩:∃ g,ad=some ⟨g,0,none⟩:=by
    rcases hB.l.2 with ⟨q,q'⟩|⟨g,cap,cur,q,_⟩
    ·omega
    ·injection q with q1;exact⟨g,q1⟩
   subst hg
   have e0:(wr.cell? ⟨g,c * 2,none⟩).isSome=true∧(wr.cell? ⟨g,c * 2+1,none⟩).isSome=true∧(∀ o,wr.frozen? ⟨g,o,none⟩=false):=by
    rcases hB.l.2 with ⟨q,q'⟩|⟨g',cap',cur,q,h1,h2,h3,h4,h5,h6⟩
    ·cases q
    ·injection q with q1 q2 q3
     injection q1 with q1
     injection q1 with q1 _ _
     subst q1
     refine⟨?_,?_,fun o=>by rw [World.frozen?,h2];rfl⟩
     ·rw [World.cell?,h2];show (cur[c * 2]?).isSome=true;rw [Array.getElem?_eq_getElem (by omega)];rfl
     ·rw [World.cell?,h2];show (cur[c * 2+1]?).isSome=true;rw [Array.getElem?_eq_getElem (by omega)];rfl
   obtain⟨a0,ha0⟩:=Option.isSome_iff_exists.mp e0.1
   obtain⟨a1,ha1⟩:=Option.isSome_iff_exists.mp e0.2.1
   have fzg:=e0.2.2
   have RL:Hid (BlInv T es B0 w b k M (n+1) z vS vN vR vQ es (.slice (some ⟨g,0,none⟩) m cp) m f gm (.int .i64 ((c+1:Nat):Int)) ((wr.setCell ⟨g,c * 2,none⟩ (.int .i64 z)).setCell ⟨g,c * 2+1,none⟩ (.int .i64 0))):=by
    have h2:=hB.put hlt (fun x hx=>HFAR.out x hx g rfl)
    refine⟨c+1,rfl,by omega,?_⟩
    have e:(fun q=>if q=c then (z,(0:Int)) else if q < c then (z,0) else f q)=(fun q=>if q < c+1 then (z,0) else f q):=by
     funext q
     by_cases h1:q=c
     ·subst h1;simp
     ·by_cases h3:q < c
      ·rw [if_neg h1,if_pos h3,if_pos (by omega)]
      ·rw [if_neg h1,if_neg h3,if_neg (by omega)]
    rw [e] at h2;exact h2
   clear hB e0
   go_wp2_with fail
   go_roundg gm
   case measure=>omega
   case rel=>exact RL.out
  ·have hlt':¬ (c:Int) < m:=by omega
   have ST2:Hid (BmInv T es B0 w b k M m (n+1) z vR vQ 4 (.slice ad m cp) (.int .i64 0) wr):=⟨0,m,vS,vN,es,rfl,by omega,by omega,rfl,hB.core (by omega),hB.one⟩
   obtain⟨i1,hi1,hi2,hi3,hi4⟩:=lInfoSl
   obtain⟨i2,hj1,hj2,hj3,hj4⟩:=lInfoInt
   obtain⟨i3,hl1,hl2,hl3,hl4⟩:=pInfoSpan
   have HI1:Hid (Tryz.prog.info? 37=some i1∧i1.zero=some (.slice none 0 0)∧i1.size=1∧i1.bytes=24):=⟨hi1,hi2,hi3,hi4⟩
   have HI2:Hid (Tryz.prog.info? 3=some i2∧i2.zero=some (.int .i64 0)∧i2.size=1∧i2.bytes=8):=⟨hj1,hj2,hj3,hj4⟩
   have HI3:Hid (Tryz.prog.info? 66=some i3∧i3.zero=some (.agg #[.int .i64 0,.int .i64 0])∧i3.size=2∧i3.bytes=16):=⟨hl1,hl2,hl3,hl4⟩
   clear hB hrel hi1 hi2 hi3 hi4 hj1 hj2 hj3 hj4 hl1 hl2 hl3 hl4 HBS m0 m1 HST HFAR HL HB HHF
   go_wp2_with fail
   go_loopg [1,6] 4 (fun gn vl vk wr=>BmInv T es B0 w b k M m (n+1) z vR vQ gn vl vk wr)
   case atStart=>exact ST2.out
   case round=>
    obtain⟨d,ln,xS,xN,es1,hvk,hdg,hln,hvl,hB,hone⟩:=hrel.st
    subst hvk
    by_cases hd:d < 4
    ·obtain⟨gm,hgm⟩:∃ q,gk=q+1:=⟨gk - 1,by omega⟩
     have hd':(d:Int) < 4:=by omega
     have b1:wr.cell? ⟨b,1,none⟩=some xS:=by rw [World.cell?,hB.cell];rfl
     have HB1:Hid (BcAt T es B0 w (wr.alloc (.cells #[u1] 37)) b M (n+1) z xS xN vR vQ xS xN (k+d) (k+d) (es1.map (·.1)) (es1.map fun x=>.int .i64 x.2) es1 u1 ln):=hB.upd (Upd.alloc (Upd.refl _ _) _)
     have HONE:Hid (∀ x∈es1,x.1.oneCell'=true):=hone
     have HVL:Hid (vLen u1=ln):=hvl
     obtain⟨va,vc,hva,hvc⟩:=vl_form hB.l.l
     subst hva
     have HLN:Hid (ln=m+d):=hln
     have hlb:ln≤24:=by omega
     clear hB hone hvl hrel hln
     go_wp2_with (first|(at_builtin;refine wpList_append_own_at _ rfl _ _ 32 rfl B0 37 i1 (.slice none 0 0) 1 24 Tryz.underlying32 HI1.out.1 HI1.out.2.1 HI1.out.2.2.1 HI1.out.2.2.2 rfl (by decide) xS (k+d) _ rfl HB1.out.s ⟨wr.heap.size,0,none⟩ 1 1 [.slice va ln vc] rfl rfl ?c1 ?c2 ?c3 ?c4 ?c5 ?_)|fail)
     case c1=>exact one_cell _ _ _
     case c2=>intro u hu;simp at hu;subst hu;rfl
     case c3=>unfold maxLen;omega
     case c4=>omega
     case c5=>exact Nat.le_trans HB1.out.hB HB1.out.up.size
     intro vS' w2 hown2 hgrow2 hnil2 hloc2
     obtain⟨sa,sc,hsv,_⟩:=row_form hown2
     subst hsv
     have B2:=HB1.out.moreS hgrow2 hown2 (by rw [show (wr.alloc (.cells #[.slice va ln vc] 37)).heap.size=wr.heap.size+1 from (by show (wr.heap.push _).size=_;simp)];exact hloc2)
     have HB2:Hid (BcAt T es B0 w w2 b M (n+1) z xS xN vR vQ (.slice sa (k+d+1) sc) xN (k+d+1) (k+d) (es1.map (·.1)++[.slice va ln vc]) (es1.map fun x=>.int .i64 x.2) es1 (.slice va ln vc) ln):=B2
     have f2:w2.frozen? ⟨b,1,none⟩=false:=by rw [World.frozen?,B2.cell];rfl
     have b2:w2.cell? ⟨b,1,none⟩=some xS:=by rw [World.cell?,B2.cell];rfl
     have HB3:Hid (BcAt T es B0 w (w2.setCell ⟨b,1,none⟩ (.slice sa (k+d+1) sc)) b M (n+1) z (.slice sa (k+d+1) sc) xN vR vQ (.slice sa (k+d+1) sc) xN (k+d+1) (k+d) (es1.map (·.1)++[.slice va ln vc]) (es1.map fun x=>.int .i64 x.2) es1 (.slice va ln vc) ln):=B2.put rfl
     clear hown2 hgrow2 hnil2 hloc2 B2 b1
     go_wp2_with fail
     revert HB3
     generalize w2.setCell ⟨b,1,none⟩ (.slice sa (k+d+1) sc)=w3
     intro HB3
     have b0:w3.cell? ⟨b,0,none⟩=some (.int .i64 (n+1)):=by rw [World.cell?,HB3.out.cell];rfl
     have b2':w3.cell? ⟨b,2,none⟩=some xN:=by rw [World.cell?,HB3.out.cell];rfl
     have f3:∀ o,w3.frozen? ⟨b,o,none⟩=false:=fun o=>by rw [World.frozen?,HB3.out.cell];rfl
     have hzz:-10 - (n+1)=z:=HZ.out.symm
     have hzb:-60000011≤z∧z≤-11:=by omega
     have hwr:IntKind.i64.wrap z=z:=by rw [IntKind.wrap_i64];omega
     have b2'':(w3.alloc (.cells #[.int .i64 z] 3)).cell? ⟨b,2,none⟩=some xN:=(cell_eq (Below.heap_alloc _ _ _ (lt_of_heap HB3.out.cell)) _).trans b2'
     have H1C:Hid (∀ j u,([.int .i64 z]:List Value)[j]?=some u→(w3.alloc (.cells #[.int .i64 z] 3)).drew.cell? ((⟨w3.heap.size,0,none⟩:Addr).add j)=some u):=fun j u h=>one_cell w3 _ _ j u h
     have HN3:Hid (BcAt T es B0 w (w3.alloc (.cells #[.int .i64 z] 3)).drew b M (n+1) z (.slice sa (k+d+1) sc) xN vR vQ (.slice sa (k+d+1) sc) xN (k+d+1) (k+d) (es1.map (·.1)++[.slice va ln vc]) (es1.map fun x=>.int .i64 x.2) es1 (.slice va ln vc) ln):=HB3.out.upd (Upd.drew (Upd.alloc (Upd.refl _ _) _))
     go_region_law (refine step_append_own rfl _ _ 33 rfl B0 3 i2 (.int .i64 0) 1 8 Tryz.underlying33 HI2.out.1 HI2.out.2.1 HI2.out.2.2.1 HI2.out.2.2.2 (by decide) (by decide) xN (k+d) (es1.map fun x=>.int .i64 x.2) (by simp [Act.eval,Act.put]) (by exact HN3.out.n) ⟨w3.heap.size,0,none⟩ 1 1 [.int .i64 z] (by simp [Act.eval,Act.put]) rfl (by exact H1C.out) (by intro u hu;simp at hu;subst hu;rfl) (by unfold maxLen;omega) (by omega) (by exact Nat.le_trans HN3.out.hB HN3.out.up.size) ?_;intro vN' w5 hown5 hgrow5 hnil5 hloc5;obtain⟨na,nc,hnv,_⟩:=row_form hown5;subst hnv;have B5:=HN3.out.moreN hgrow5 hown5 hloc5;have f5:w5.frozen? ⟨b,2,none⟩=false:=(by rw [World.frozen?,B5.cell];rfl);have g5:w5.cell? ⟨b,2,none⟩=some xN:=(by rw [World.cell?,B5.cell];rfl);have HB6:Hid (BcAt T es B0 w (w5.setCell ⟨b,2,none⟩ (.slice na (k+d+1) nc)) b M (n+1) z (.slice sa (k+d+1) sc) (.slice na (k+d+1) nc) vR vQ (.slice sa (k+d+1) sc) (.slice na (k+d+1) nc) (k+d+1) (k+d+1) (es1.map (·.1)++[.slice va ln vc]) ((es1.map fun x=>.int .i64 x.2)++[.int .i64 z]) es1 (.slice va ln vc) ln):=B5.put rfl;clear hown5 hgrow5 hnil5 hloc5 B5)
     all_goals
      revert HB6
      generalize w5.setCell ⟨b,2,none⟩ (.slice na (k+d+1) nc)=w6
      intro HB6
      have m0:w6.cell? ⟨M,0,none⟩=some (.int .i64 z):=by rw [World.cell?,HB6.out.mark];rfl
      have m1:w6.cell? ⟨M,1,none⟩=some (.int .i64 0):=by rw [World.cell?,HB6.out.mark];rfl
      have HB7:Hid (BcAt T es B0 w (w6.alloc (.cells #[.int .i64 z,.int .i64 0] 66)) b M (n+1) z (.slice sa (k+d+1) sc) (.slice na (k+d+1) nc) vR vQ (.slice sa (k+d+1) sc) (.slice na (k+d+1) nc) (k+d+1) (k+d+1) (es1.map (·.1)++[.slice va ln vc]) ((es1.map fun x=>.int .i64 x.2)++[.int .i64 z]) (es1++[(.slice va ln vc,z)]) (.slice va ln vc) ln):=(HB6.out.upd (Upd.alloc (Upd.refl _ _) _)).entry rfl
      go_wp2_with (first|(at_builtin;refine wpList_append_more _ rfl _ _ 37 rfl B0 66 i3 (.agg #[.int .i64 0,.int .i64 0]) 2 16 Tryz.underlying37 HI3.out.1 HI3.out.2.1 HI3.out.2.2.1 HI3.out.2.2.2 rfl (by decide) (.slice va ln vc) ln _ rfl HB7.out.l ⟨w6.heap.size,0,none⟩ 1 1 [.int .i64 z,.int .i64 0] rfl rfl ?c1 ?c2 ?c3 ?c4 ?c5 ?_)|fail)
      case c1=>exact cells_twoZ _ _ _
      case c2=>intro u hu;simp at hu;rcases hu with rfl|rfl<;>rfl
      case c3=>unfold maxLen;omega
      case c4=>omega
      case c5=>exact Nat.le_trans HB7.out.hB HB7.out.up.size
      intro vL w8 hown8 hgrow8 hloc8
      have hz6:(w6.alloc (.cells #[.int .i64 z,.int .i64 0] 66)).heap.size=w6.heap.size+1:=by show (w6.heap.push _).size=_;simp
      have RL:Hid (BmInv T es B0 w b k M m (n+1) z vR vQ gm vL (.int .i64 ((d+1:Nat):Int)) w8):=BmInv.step (HB7.out.moreL hgrow8 hown8 (by rw [hz6];exact hloc8)) HONE.out rfl HLN.out (by omega)
      clear hown8 hgrow8 hloc8
      go_wp2_with fail
      go_roundg gm
      case measure=>omega
      case rel=>exact RL.out
    ·have hd':¬ (d:Int) < 4:=by omega
     have HO:Hid (∃ vS' vN' es',BkAt B0 wr b (k+4) (n+1) vS' vN' vR vQ es'∧Upd T w wr∧Lies T w vS'∧Lies T w vN'∧(∀ x∈es',x∈es∨Lies T w x.1)):=by
      have e:d=4:=by omega
      subst e
      exact⟨xS,xN,es1,⟨hB.cell,hB.s,hB.n,hB.bb,hB.ent,hone⟩,hB.up,hB.ts,hB.tn,hB.new⟩
     go_wp2_with fail
     go_end0
     obtain⟨y1,y2,y3,y4⟩:=HO.out
     exact⟨rfl,y1,y2,y3,y4.1,y4.2.1,y4.2.2.1,y4.2.2.2.1,fun a b h=>y4.2.2.2.2 (a,b) h⟩
end Go.Proofs.YtcpfpnjkfahjcaaGreat
